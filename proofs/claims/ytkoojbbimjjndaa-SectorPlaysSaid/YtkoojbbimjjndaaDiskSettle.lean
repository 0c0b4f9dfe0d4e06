/-
  Package sector: writes are settled: Flush, Crash.
-/
import Derived.Test.YtkoojbbimjjndaaDiskWrite
namespace Go.Proofs.Ytkoojbbimjjndaa
open Go.RowKit Dsk

/-- v is a slice that reads as the numbers ps; they lie in block b. -/
def Ints (w : World) (v : Value) (ps : List Int) (b : Nat) : Prop :=
  ∃ a cap, v = .slice a ps.length cap ∧ (ps.length ≤ cap ∧ cap ≤ 9223372036854775807) ∧ (ps ≠ [] → ∃ off, a = some ⟨b, off, none⟩ ∧ b < w.heap.size ∧ ∀ j, j < ps.length → w.cell? ⟨b, off + j, none⟩ = some (.int .i64 (ps.getD j 0)))
theorem Ints.kept {w w' : World} {v : Value} {ps : List Int} {b : Nat} (h : Ints w v ps b) (hk : b < w.heap.size → b < w'.heap.size ∧ w'.heap[b]? = w.heap[b]?) : Ints w' v ps b := by
  obtain ⟨a, cap, rfl, hl, hc⟩ := h
  refine ⟨a, cap, rfl, hl, fun hn => ?_⟩
  obtain ⟨off, rfl, hb, hj⟩ := hc hn
  obtain ⟨h1, h2⟩ := hk hb
  refine ⟨off, rfl, h1, fun j h => ?_⟩
  rw [← hj j h]
  unfold World.cell?
  rw [h2]
theorem Ints.nil (w : World) (b : Nat) : Ints w (.slice none 0 0) [] b := ⟨none, 0, rfl, by decide, fun h => absurd rfl h⟩

theorem Ints.take {w : World} {a : Option Addr} {cap b : Nat} {ps : List Int} (h : Ints w (.slice a ps.length cap) ps b) (n : Nat) : Ints w (.slice a (ps.take n).length cap) (ps.take n) b := by
  obtain ⟨a', cap', e, hl, hc⟩ := h
  injection e with e1 _ e3
  subst e1
  subst e3
  have hle : (ps.take n).length ≤ ps.length := by rw [List.length_take]; omega
  refine ⟨a, cap, rfl, by omega, fun hn => ?_⟩
  obtain ⟨off, rfl, hb, hj⟩ := hc (fun e => hn (by rw [e, List.take_nil]))
  refine ⟨off, rfl, hb, fun j h => ?_⟩
  rw [hj j (by omega)]
  congr 2
  rw [List.length_take] at h
  rw [List.getD_eq_getElem?_getD, List.getD_eq_getElem?_getD, List.getElem?_take, if_pos (by omega)]
theorem picked_all (i : Int) (w : World) : Calls Try.prog 45 #[.int .i64 i] w fun e w' => e = .returned (.bool true) ∧ w = w' := by
  go_enter Try.func45, Try.ntmps45
  go_wp2
  go_ret
  exact ⟨rfl, rfl⟩
theorem picked_odd (i : Nat) (bx : Nat) (v : Value) (ps : List Int) (b : Nat) (w : World) (hb : w.cell? ⟨bx, 0, none⟩ = some v) (h : Ints w v ps b) :
    Calls Try.prog 47 #[.int .i64 (i : Int), .pointer (some ⟨bx, 0, none⟩)] w fun e w' => e = .returned (.bool (odd ps i)) ∧ w = w' := by
  obtain ⟨a, cap, rfl, hl, hc⟩ := h
  unfold odd
  by_cases hi : i < ps.length
  · rw [decide_eq_true hi, Bool.true_and]
    obtain ⟨off, rfl, hlt, hj⟩ := hc (fun e => by rw [e] at hi; simp at hi)
    have c := hj i hi
    obtain ⟨x, hx⟩ : ∃ x, x = ps.getD i 0 := ⟨_, rfl⟩
    rw [← hx] at c ⊢
    clear hx hj hc
    go_enter Try.func47, Try.ntmps47
    go_wp2
    go_ret
    refine ⟨?_, rfl⟩
    show Ending.returned (.bool _) = _
    congr 2
    by_cases hz : x.tmod 2 = 0 <;> simp [hz]
  · rw [decide_eq_false hi, Bool.false_and]
    go_enter Try.func47, Try.ntmps47
    go_wp2
    go_ret
    exact ⟨rfl, rfl⟩
theorem strs_set (l : List ByteArray) (i : Nat) (s : ByteArray) : ((l.map Value.string).toArray).setIfInBounds i (.string s) = ((l.set i s).map Value.string).toArray := by
  rw [List.setIfInBounds_toArray, List.map_set]
/-- A disk, of whose cache the first k writes are settled. -/
def mid (d : Dk) (pick : Nat → Bool) (k : Nat) : Dk := ⟨stK pick d.lies d.cache k, d.cache, d.on, d.armed, d.left, d.steps⟩
theorem mid_at {p bl : Nat} {cv : Value} {d : Dk} {pick : Nat → Bool} {k : Nat} {w w' : World} (h : DiskAt p bl cv (mid d pick k) w) (hw : w'.heap = w.heap) : DiskAt p bl cv (mid d pick k) w' := h.kept fun j _ _ => by rw [hw]
theorem mid_step {p bl : Nat} {cv : Value} {d : Dk} {pick : Nat → Bool} {k : Nat} {w w' : World} (h : DiskAt p bl cv (mid d pick k) w) (hp : pick k = true)
    (hw : w'.heap = (w.setCell ⟨bl, (cAt d.cache k).1, none⟩ (.string (cAt d.cache k).2)).heap) : DiskAt p bl cv (mid d pick (k + 1)) w' := by
  have e : stK pick d.lies d.cache (k + 1) = (stK pick d.lies d.cache k).set (cAt d.cache k).1 (cAt d.cache k).2 := by
    rw [stK, if_pos hp]
  have hn : (mid d pick (k + 1)).lies.length = (mid d pick k).lies.length := by simp only [mid, stK_length]
  refine ⟨?_, ?_, ?_, ?_, ?_, h.left, h.steps, h.writes⟩
  · rw [hw, hn]; exact (heap_far h.pl _).trans h.head
  · rw [hw]
    have := heap_set (i := (cAt d.cache k).1) h.rows (.string (cAt d.cache k).2)
    rw [strs_set] at this
    show _ = some (Obj.cells (List.map Value.string (stK pick d.lies d.cache (k + 1))).toArray _ _)
    rw [e]
    exact this
  · refine h.cache.kept fun j hj => ?_
    rw [hw]
    exact heap_far (fun e' : j = bl => h.lc (by rw [← e']; exact hj)) _
  · intro x hx; rw [hn]; exact h.fit x hx
  · rw [hn]; exact h.most
theorem mid_skip {p bl : Nat} {cv : Value} {d : Dk} {pick : Nat → Bool} {k : Nat} {w : World} (h : DiskAt p bl cv (mid d pick k) w) (hp : pick k = false) : DiskAt p bl cv (mid d pick (k + 1)) w := by
  have : mid d pick (k + 1) = mid d pick k := by
    unfold mid
    rw [stK, if_neg (by rw [hp]; decide)]
  rw [this]; exact h
/-- The cache is given up. -/
theorem mid_end {p bl : Nat} {cv : Value} {d : Dk} {pick : Nat → Bool} {w : World} (h : DiskAt p bl cv (mid d pick d.cache.length) w) : DiskAt p bl (.slice none 0 0) (Dsk.settle d pick) (w.setCell ⟨p, 1, none⟩ (.slice none 0 0)) :=
  ⟨heap_set h.head _, (heap_far (Ne.symm h.pl) _).trans h.rows, CacheAt.nil _, (fun x hx => by cases hx), h.most, h.left, h.steps, by simp [Dsk.settle]⟩

set_option maxHeartbeats 1600000 in
set_option maxRecDepth 100000 in
theorem settle_all (p bl : Nat) (cv : Value) (d : Dk) (w : World) (h : DiskAt p bl cv d w) :
    Calls Try.prog 44 #[.pointer (some ⟨p, 0, none⟩), .func (.func 45) #[] #[]] w fun e w' => e = .returned (.tuple #[]) ∧ DiskAt p bl (.slice none 0 0) (Dsk.settle d Dsk.all) w' ∧ Fr (fp p bl cv) w w' := by
  have c1 := h.c1
  obtain ⟨ca, ccap, hcv⟩ := h.cache.slice
  rw [hcv] at c1
  have hwr := h.writes
  have H := Lib.hid h
  clear h
  go_enter Try.func44, Try.ntmps44
  go_wp2
  go_loopw [11] (fun i wr => ∃ k : Nat, k ≤ d.cache.length ∧ i = .int .i64 k ∧ DiskAt p bl cv (mid d Dsk.all k) wr ∧ Fr (fun j => j = bl) w wr) (fun i _ => d.cache.length - (intOf i).toNat)
  case atStart => exact ⟨0, Nat.zero_le _, rfl, H.out, Fr.refl _ _⟩
  case round =>
    obtain ⟨k, hk, rfl, hd, hf⟩ := hrel
    by_cases hlt : k < d.cache.length
    · obtain ⟨g, cap, hcv', hgb, hglt, hcs⟩ := hd.cache.cells (fun e => by have e' : d.cache = [] := e; rw [e'] at hlt; simp at hlt)
      rw [hcv] at hcv'
      injection hcv' with e1 e2 e3
      subst e1
      subst e3
      clear e2
      obtain ⟨x0, x1⟩ := hcs k hlt
      have hfit := hd.fit _ (cAt_lt d.cache k hlt)
      have hpl := hd.pl
      obtain ⟨y, hy⟩ : ∃ y, y = cAt d.cache k := ⟨_, rfl⟩
      rw [show cAt (mid d Dsk.all k).cache k = y from hy.symm] at x0 x1
      rw [← hy] at hfit
      obtain ⟨ya, ys⟩ := y
      simp only at x0 x1 hfit
      have hlen : (mid d Dsk.all k).lies.length = d.lies.length := by simp only [mid, stK_length]
      have hB : Below wr.heap.size wr (wr.alloc (.cells #[.int .i64 (ya : Int), .string ys] 73)) := (Below.refl _ _).alloc (Nat.le_refl _) _
      have hd' := hd.old hB
      have hf' : Fr (fun j => j = bl) w (wr.alloc (.cells #[.int .i64 (ya : Int), .string ys] 73)) := hf.alloc _
      have hnew := heap_alloc_last wr (.cells #[.int .i64 (ya : Int), .string ys] 73)
      have hHY := Lib.hid hy
      clear hcs hgb hglt hy hB
      obtain ⟨wa, hwa⟩ : ∃ wa, wa = wr.alloc (.cells #[.int .i64 (ya : Int), .string ys] 73) := ⟨_, rfl⟩
      rw [← hwa] at hd' hf' hnew
      have hwsz : wr.heap.size < wa.heap.size := by rw [hwa]; simp
      go_upto_region 3 with fail
      rw [← hwa]
      clear hwa x0 x1
      have a0 := hd'.c0
      have n0 : wa.cell? ⟨wr.heap.size, 0, none⟩ = some (.int .i64 (ya : Int)) := cell_of hnew 0
      have n1 : wa.cell? ⟨wr.heap.size, 1, none⟩ = some (.string ys) := cell_of hnew 1
      have r0 := hd'.row ya hfit
      have fr := hd'.fzl ya
      rw [hlen] at a0
      rw [hlen] at hfit
      have HD := Lib.hid hd'
      have HF := Lib.hid hf'
      have HD0 := Lib.hid hd
      clear hd' hf' hd hf hnew
      go_wp2_with (go_at_call 45; refine (picked_all _ _).mono ?_; rintro e w' ⟨rfl, rfl⟩)
      go_region
      go_wp2
      go_roundw
      case rel =>
        have hy : (ya, ys) = cAt d.cache k := hHY.out
        exact ⟨k + 1, by omega, by go_num, mid_step HD.out rfl (by rw [← hy]; rfl), (HF.out.setCell ya (.string ys) (fun _ => rfl)).drew⟩
      case measure => simp [intOf]; omega
    · obtain rfl : k = d.cache.length := by omega
      have d1 := hd.c1
      have f1 := hd.fz 1
      rw [hcv] at d1
      go_wp2
      go_end0
      exact ⟨rfl, mid_end hd, (hf.mono fun j _ e => .inr (.inl e)).setCell 1 _ fun _ => .inl rfl⟩

set_option maxHeartbeats 1600000 in
set_option maxRecDepth 100000 in
theorem settle_odd (p bl : Nat) (cv : Value) (d : Dk) (w : World) (h : DiskAt p bl cv d w) (bx : Nat) (v : Value) (ps : List Int) (b : Nat) (hbx : w.cell? ⟨bx, 0, none⟩ = some v) (hbx1 : bx < w.heap.size) (hbx2 : bx ≠ bl) (hps : Ints w v ps b) (hb : b < w.heap.size → b ≠ bl) :
    Calls Try.prog 44 #[.pointer (some ⟨p, 0, none⟩), .func (.func 47) #[] #[.pointer (some ⟨bx, 0, none⟩)]] w fun e w' => e = .returned (.tuple #[]) ∧ DiskAt p bl (.slice none 0 0) (Dsk.settle d (odd ps)) w' ∧ Fr (fp p bl cv) w w' := by
  have c1 := h.c1
  obtain ⟨ca, ccap, hcv⟩ := h.cache.slice
  rw [hcv] at c1
  have hwr := h.writes
  have H := Lib.hid h
  clear h
  go_enter Try.func44, Try.ntmps44
  go_wp2
  go_loopw [11] (fun i wr => ∃ k : Nat, k ≤ d.cache.length ∧ i = .int .i64 k ∧ DiskAt p bl cv (mid d (odd ps) k) wr ∧ Fr (fun j => j = bl) w wr) (fun i _ => d.cache.length - (intOf i).toNat)
  case atStart => exact ⟨0, Nat.zero_le _, rfl, H.out, Fr.refl _ _⟩
  case round =>
    obtain ⟨k, hk, rfl, hd, hf⟩ := hrel
    by_cases hlt : k < d.cache.length
    · obtain ⟨g, cap, hcv', hgb, hglt, hcs⟩ := hd.cache.cells (fun e => by have e' : d.cache = [] := e; rw [e'] at hlt; simp at hlt)
      rw [hcv] at hcv'
      injection hcv' with e1 e2 e3
      subst e1
      subst e3
      clear e2
      obtain ⟨x0, x1⟩ := hcs k hlt
      have hfit := hd.fit _ (cAt_lt d.cache k hlt)
      have hpl := hd.pl
      obtain ⟨y, hy⟩ : ∃ y, y = cAt d.cache k := ⟨_, rfl⟩
      rw [show cAt (mid d (odd ps) k).cache k = y from hy.symm] at x0 x1
      rw [← hy] at hfit
      obtain ⟨ya, ys⟩ := y
      simp only at x0 x1 hfit
      have hlen : (mid d (odd ps) k).lies.length = d.lies.length := by simp only [mid, stK_length]
      have hB : Below wr.heap.size wr (wr.alloc (.cells #[.int .i64 (ya : Int), .string ys] 73)) := (Below.refl _ _).alloc (Nat.le_refl _) _
      have hd' := hd.old hB
      have hf' : Fr (fun j => j = bl) w (wr.alloc (.cells #[.int .i64 (ya : Int), .string ys] 73)) := hf.alloc _
      have hnew := heap_alloc_last wr (.cells #[.int .i64 (ya : Int), .string ys] 73)
      have hHY := Lib.hid hy
      clear hcs hgb hglt hy hB
      have hpick : Calls Try.prog 47 #[.int .i64 (k : Int), .pointer (some ⟨bx, 0, none⟩)] (wr.alloc (.cells #[.int .i64 (ya : Int), .string ys] 73)) fun e w' => e = .returned (.bool (odd ps k)) ∧ (wr.alloc (.cells #[.int .i64 (ya : Int), .string ys] 73)) = w' := by
        refine picked_odd k bx v ps b _ ((hf'.cell hbx1 hbx2).trans hbx) (hps.kept fun hlt => ⟨Nat.lt_of_lt_of_le hlt hf'.size, hf'.block b hlt (hb hlt)⟩)
      obtain ⟨wa, hwa⟩ : ∃ wa, wa = wr.alloc (.cells #[.int .i64 (ya : Int), .string ys] 73) := ⟨_, rfl⟩
      rw [← hwa] at hd' hf' hnew hpick
      have hwsz : wr.heap.size < wa.heap.size := by rw [hwa]; simp
      go_upto_region 3 with fail
      rw [← hwa]
      clear hwa x0 x1
      have a0 := hd'.c0
      have n0 : wa.cell? ⟨wr.heap.size, 0, none⟩ = some (.int .i64 (ya : Int)) := cell_of hnew 0
      have n1 : wa.cell? ⟨wr.heap.size, 1, none⟩ = some (.string ys) := cell_of hnew 1
      have r0 := hd'.row ya hfit
      have fr := hd'.fzl ya
      rw [hlen] at a0
      rw [hlen] at hfit
      have HD := Lib.hid hd'
      have HF := Lib.hid hf'
      have HD0 := Lib.hid hd
      clear hd' hf' hd hf hnew
      cases hp : odd ps k with
      | true =>
        go_wp2_with (go_at_call 47; refine hpick.mono ?_; rintro e w' ⟨rfl, rfl⟩; rw [hp])
        go_region
        go_wp2
        go_roundw
        case rel =>
          have hy : (ya, ys) = cAt d.cache k := hHY.out
          exact ⟨k + 1, by omega, by go_num, mid_step HD.out hp (by rw [← hy]; rfl), (HF.out.setCell ya (.string ys) (fun _ => rfl)).drew⟩
        case measure => simp [intOf]; omega
      | false =>
        go_wp2_with (go_at_call 47; refine hpick.mono ?_; rintro e w' ⟨rfl, rfl⟩; rw [hp])
        go_roundw
        case rel => exact ⟨k + 1, by omega, by go_num, mid_skip HD.out hp, HF.out⟩
        case measure => simp [intOf]; omega
    · obtain rfl : k = d.cache.length := by omega
      have d1 := hd.c1
      have f1 := hd.fz 1
      rw [hcv] at d1
      go_wp2
      go_end0
      exact ⟨rfl, mid_end hd, (hf.mono fun j _ e => .inr (.inl e)).setCell 1 _ fun _ => .inl rfl⟩

theorem flush_disk (p bl : Nat) (cv : Value) (d : Dk) (w : World) (h : DiskAt p bl cv d w) (hs : d.steps < 1000000) :
    Calls Try.prog 19 #[.pointer (some ⟨p, 0, none⟩)] w fun e w' => ∃ cv', e = .returned (.int .i64 (err d)) ∧ DiskAt p bl cv' (Dsk.flush d) w' ∧ Fr (fp p bl cv) w w' ∧ Goes cv cv' w := by
  have hst := step_any p bl cv d w h hs
  cases hm : may d with
  | false =>
    have he : err d = 14 := by unfold err; rw [hm]; rfl
    have hd : Dsk.flush d = Dsk.step d := by unfold Dsk.flush; rw [hm]; rfl
    rw [he, hd]
    rw [he] at hst
    go_enter Try.func19, Try.ntmps19
    go_wp2_with (go_at_call 43; refine hst.mono ?_; rintro e w' ⟨rfl, h1, ho⟩)
    go_ret
    exact ⟨cv, rfl, h1, ho.fr (.inl rfl), Goes.refl _ _⟩
  | true =>
    have he : err d = 0 := by unfold err; rw [hm]; rfl
    have hd : Dsk.flush d = Dsk.settle (Dsk.step d) Dsk.all := by unfold Dsk.flush; rw [hm]; rfl
    rw [he, hd]
    rw [he] at hst
    go_enter Try.func19, Try.ntmps19
    go_wp2_with (first
      | (go_at_call 43; refine hst.mono ?_; rintro e w' ⟨rfl, h1, ho⟩)
      | (go_at_call 44; refine (settle_all _ _ _ _ _ h1).mono ?_; rintro e w2 ⟨rfl, h2, hf⟩))
    go_ret
    exact ⟨_, rfl, h2, (ho.fr (.inl rfl)).trans hf, Goes.nil _ _⟩
theorem flush_nil (w : World) :
    Calls Try.prog 19 #[.pointer none] w fun e w' => e = .returned (.int .i64 1) ∧ w = w' := by
  go_enter Try.func19, Try.ntmps19
  go_wp2
  go_ret
  exact ⟨rfl, rfl⟩
set_option maxHeartbeats 800000 in
theorem crash_disk (p bl : Nat) (cv : Value) (d : Dk) (w : World) (h : DiskAt p bl cv d w) (v : Value) (ps : List Int) (b : Nat) (hps : Ints w v ps b) (hb : b < w.heap.size → b ≠ bl) :
    Calls Try.prog 23 #[.pointer (some ⟨p, 0, none⟩), v] w fun e w' => e = .returned (.tuple #[]) ∧ DiskAt p bl (.slice none 0 0) (Dsk.crash d (odd ps)) w' ∧ Fr (fp p bl cv) w w' := by
  have hps' := hps
  obtain ⟨a, cap, rfl, hl, hc⟩ := hps'
  have hB : Below w.heap.size w (w.alloc (.cells #[.slice a ps.length cap] 36)) := (Below.refl _ _).alloc (Nat.le_refl _) _
  have hset := settle_odd p bl cv d _ (h.old hB) w.heap.size (.slice a ps.length cap) ps b (cell_of (heap_alloc_last w _) 0) (by simp) (by have := h.ltl; omega) (hps.kept fun hlt => ⟨by simp; omega, hB.block b hlt⟩) (fun hlt => by
    by_cases e : b < w.heap.size
    · exact hb e
    · have := h.ltl
      omega)
  clear hc hps
  go_enter Try.func23, Try.ntmps23
  go_upto_region 3 with (go_at_call 44; refine hset.mono ?_; rintro e w2 ⟨rfl, h2, hf⟩)
  have c2 := h2.c2
  have c3 := h2.c3
  have f2 := h2.fz 2
  have f3 := h2.fz 3
  have hm2 := h2.most
  have hh2 := h2.head
  have H2 := Lib.hid h2
  have hn : (Dsk.settle d (odd ps)).lies.length = d.lies.length := by simp only [Dsk.settle, stK_length]
  go_wp2_with (go_at_call 18; refine (sectors_any _ _ _ _ _ h2).mono ?_; rintro e w' ⟨rfl, rfl⟩)
  go_end0
  have ho : Only p w2 ((w2.setCell ⟨p, 2, none⟩ (.bool (decide (0 < d.lies.length)))).setCell ⟨p, 3, none⟩ (.bool false)) := ((Only.refl _ _).setCell _ _).setCell _ _
  exact ⟨rfl, DiskAt.rehead (d' := Dsk.crash d (odd ps)) H2.out ho (heap_set (heap_set hh2 _) _) rfl rfl H2.out.left H2.out.steps, ((Fr.of_below hB).trans hf).trans (ho.fr (.inl rfl))⟩
theorem crash_nil (v : Value) (ps : List Int) (b : Nat) (w : World) (hps : Ints w v ps b) :
    Calls Try.prog 23 #[.pointer none, v] w fun e w' => e = .returned (.tuple #[]) ∧ Below w.heap.size w w' := by
  obtain ⟨a, cap, rfl, hl, hc⟩ := hps
  go_enter Try.func23, Try.ntmps23
  go_wp2
  first | go_end0 | refine bodyPost_ret (results_none rfl _ _ _) rfl ?_
  exact ⟨rfl, (Below.refl _ _).alloc (Nat.le_refl _) _⟩
end Go.Proofs.Ytkoojbbimjjndaa
