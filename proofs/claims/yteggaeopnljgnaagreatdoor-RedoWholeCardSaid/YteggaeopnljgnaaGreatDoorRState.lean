/-
  The laws' functions reads and after: what a log reads behind its journal is what a state says; a state behind writes.
-/
import Derived.Test.YteggaeopnljgnaaGreatDoorRLaw
import Derived.Test.YteggaeopnljgnaaGreatDoorMArg
import Derived.Deep.MidRow
import Derived.Deep.WholeRow
namespace Go.Proofs.YteggaeopnljgnaaGreatDoor
open Go.RowKit Dsk

/-- A state: 40 texts. -/
def stV (X : List ByteArray) : Value := .agg (X.map Value.string).toArray
/-- Do two states agree behind the journal? -/
def sameB (n : Nat) (X : List ByteArray) (S : Jnl.Im) : Bool := (List.range 40).all fun a => decide (n ≤ a → X.getD a .empty = S a)
theorem sameB_iff {n : Nat} {X : List ByteArray} {S : Jnl.Im} : sameB n X S = true ↔ ∀ a, a < 40 → n ≤ a → X.getD a .empty = S a := by
  unfold sameB
  rw [List.all_eq_true]
  exact ⟨fun h a h1 h2 => of_decide_eq_true (h a (List.mem_range.2 h1)) h2, fun h a h1 => decide_eq_true (h a (List.mem_range.1 h1))⟩
set_option maxHeartbeats 3200000 in
set_option maxRecDepth 100000 in
theorem reads_any (Sy : Nat → Prop) (l p : Nat) (G : Jnl.Geo) (d : Dk) (S : Jnl.Im) (q u n : Nat) (X : List ByteArray) (w : World) (h : LG Sy l p G d S q u w) (hX : X.length = 40) (hn : n ≤ 40) (hd : ∀ a, n ≤ a → a < 40 → G.Data a) :
    Calls Tryz.prog 27 #[stV X, .pointer (some ⟨l, 0, none⟩), .int .i64 (n : Int)] w fun e w' => e = .returned (.bool (sameB n X S)) ∧ Below w.heap.size w w' := by
  obtain ⟨ans, hans⟩ : ∃ ans, ans = sameB n X S := ⟨_, rfl⟩
  have hyes : (∀ a, a < 40 → n ≤ a → X.getD a .empty = S a) → ans = true := fun hh => by rw [hans]; exact sameB_iff.2 hh
  have hno : ∀ a, a < 40 → n ≤ a → ¬ X.getD a .empty = S a → ans = false := fun a h1 h2 h3 => by
    rw [hans]
    cases hq : sameB n X S with
    | false => rfl
    | true => exact absurd (sameB_iff.1 hq a h1 h2) h3
  rw [← hans]
  clear hans
  unfold stV
  obtain ⟨C, hC⟩ : ∃ C, C = (X.map Value.string).toArray := ⟨_, rfl⟩
  obtain ⟨w1, hw1⟩ : ∃ w1, w1 = w.alloc (.cells C 47) := ⟨_, rfl⟩
  obtain ⟨sb, hsb⟩ : ∃ sb, sb = w.heap.size := ⟨_, rfl⟩
  have b1 : Below w.heap.size w w1 := by rw [hw1]; exact (Below.refl _ _).alloc (Nat.le_refl _) _
  have z1 : w1.heap[sb]? = some (.cells (X.map Value.string).toArray 47 (0, 0)) := by rw [hw1, hsb, hC]; exact heap_alloc_last w _
  have h1 := h.old b1
  rw [← hC]
  have hcs : ∀ C : Array Value, (Value.agg C).cells = C := fun _ => rfl
  have HY := Lib.hid hyes
  have HN := Lib.hid hno
  have HD := Lib.hid hd
  have H1 := Lib.hid h1
  have HX := Lib.hid hX
  clear hyes hno hd h hC h1 hX
  go_enter Tryz.func27, Tryz.ntmps27
  go_upto_region 1 with fail
  try simp only [hcs]
  rw [← hw1, ← hsb]
  clear hw1 hsb hcs
  go_upto_region 2 with fail
  go_loopw [7] (fun i wr => ∃ k : Nat, n ≤ k ∧ k ≤ 40 ∧ i = .int .i64 k ∧ (∀ a, a < k → n ≤ a → X.getD a .empty = S a) ∧ Below w1.heap.size w1 wr) (fun i _ => 40 - (intOf i).toNat)
  case atStart => exact ⟨n, Nat.le_refl _, hn, rfl, fun a h1 h2 => absurd h1 (by omega), Below.refl _ _⟩
  case round =>
    obtain ⟨k, hnk, hk, rfl, hall, hb⟩ := hrel
    have HALL := Lib.hid hall
    clear hall
    by_cases hlt : k < 40
    · have hlt' : (k : Int) < 40 := by omega
      have hr := (H1.out.old hb).read (HD.out k hnk hlt)
      have c : ∀ u, Below w1.heap.size w1 u → u.cell? ⟨sb, k, none⟩ = some (.string (X.getD k .empty)) := fun u hu => by
        rw [cell_of ((hu.block sb (Array.getElem?_eq_some_iff.1 z1).1).trans z1)]
        have := HX.out
        simp [List.getD_eq_getElem?_getD, List.getElem?_eq_getElem (show k < X.length by omega)]
      go_upto_region 5 with (go_at_call 33; refine hr.mono ?_; rintro e w2 ⟨rfl, b2⟩)
      have s2 := below_step hb (Nat.le_refl _) b2
      have c2 := c w2 s2
      clear hr c
      by_cases he : X.getD k .empty = S k
      · have hst : ∀ a, a < k + 1 → n ≤ a → X.getD a .empty = S a := fun a h1 h2 => by
          by_cases ha : a = k
          · rw [ha]; exact he
          · exact HALL.out a (by omega) h2
        rw [he] at c2
        have HST := Lib.hid hst
        clear hst he
        generalize S k = Y at c2 ⊢
        go_wp2
        go_roundw
        case rel => exact ⟨k + 1, by omega, by omega, by go_num, HST.out, s2⟩
        case measure => simp [intOf]; omega
      · have ha := HN.out k hlt hnk he
        subst ha
        generalize X.getD k .empty = Z at he c2
        generalize S k = Y at he ⊢
        have hbf : (Y.toList == Z.toList) = false := str_ne (fun e => he e.symm) w
        clear he
        go_wp2
        try rw [Exit.noGoto_ret]
        go_ret
        exact ⟨rfl, below_step b1 (Nat.le_refl _) s2⟩
    · obtain rfl : k = 40 := by omega
      have ha := HY.out HALL.out
      subst ha
      go_wp2
      go_ret
      exact ⟨rfl, below_step b1 (Nat.le_refl _) hb⟩
/-- A state behind writes. -/
def aftL (t : Jnl.Txn) (X : List ByteArray) : List ByteArray := t.foldl (fun X y => X.set y.1 y.2) X
theorem aftL_len : ∀ (t : Jnl.Txn) (X : List ByteArray), (aftL t X).length = X.length
  | [], _ => rfl
  | y :: t, X => by show (aftL t (X.set y.1 y.2)).length = _; rw [aftL_len t, List.length_set]
theorem aftL_get : ∀ (t : Jnl.Txn) (X : List ByteArray) (a : Nat), a < X.length → (aftL t X).getD a .empty = Jnl.after t a (X.getD a .empty)
  | [], _, _, _ => rfl
  | y :: t, X, a, h => by
    show (aftL t (X.set y.1 y.2)).getD a .empty = Jnl.after t a (if y.1 = a then y.2 else X.getD a .empty)
    rw [aftL_get t _ a (by rw [List.length_set]; exact h)]
    congr 1
    rw [List.getD_eq_getElem?_getD, List.getElem?_set, List.getD_eq_getElem?_getD]
    by_cases e : y.1 = a
    · rw [if_pos e, if_pos e, if_pos (by omega)]; rfl
    · rw [if_neg e, if_neg e]
theorem aftL_snoc (t : Jnl.Txn) (y : Nat × ByteArray) (X : List ByteArray) : aftL (t ++ [y]) X = (aftL t X).set y.1 y.2 := by unfold aftL; rw [List.foldl_append]; rfl
theorem info_state : (Tryz.prog.info? 47).map (fun i => (i.zero, i.size)) = some (some (.agg (List.replicate 40 (Value.string ⟨#[]⟩)).toArray), 40) := by kernel_rfl
theorem state_info {X : List ByteArray} (h : X.length = 40) : (Tryz.prog.info? 47).map (·.size) = some (X.map Value.string).length := by rw [List.length_map, h]; exact (zero_of_info info_state).2
theorem state_range {X : List ByteArray} {w : World} {p : Nat} (hz : w.heap[p]? = some (.cells (X.map Value.string).toArray 47 (0, 0))) : w.rangeAt p 0 (X.map Value.string) := fun j x hx => by
  rw [Nat.zero_add, cell_of hz]
  simpa using hx
set_option maxHeartbeats 3200000 in
set_option maxRecDepth 100000 in
theorem after_any (X : List ByteArray) (t : Jnl.Txn) (v : Value) (g : Nat) (w : World) (hX : X.length = 40) (hv : PutsR w v (zT t) g) (ht : ∀ y ∈ t, y.1 < 40) (_hl : t.length ≤ 100) :
    Calls Tryz.prog 30 #[stV X, v] w fun e w' => e = .returned (stV (aftL t X)) ∧ Below w.heap.size w w' := by
  obtain ⟨a, cap, rfl, hcap, hc⟩ := hv
  rw [zT_len] at hcap
  rw [zT_len]
  obtain ⟨L, hL⟩ : ∃ L, L = aftL t X := ⟨_, rfl⟩
  rw [← hL]
  have HL := Lib.hid hL
  clear hL
  unfold stV
  have hz := (zero_of_info info_state).1
  obtain ⟨C, hC⟩ : ∃ C, C = (X.map Value.string).toArray := ⟨_, rfl⟩
  obtain ⟨Z, hZ⟩ : ∃ Z, Z = (List.replicate 40 (Value.string ⟨#[]⟩)).toArray := ⟨_, rfl⟩
  rw [← hZ] at hz
  obtain ⟨w1, hw1⟩ : ∃ w1, w1 = (w.alloc (.cells C 47)).alloc (.cells Z 47) := ⟨_, rfl⟩
  obtain ⟨sb, hsb⟩ : ∃ sb, sb = w.heap.size := ⟨_, rfl⟩
  obtain ⟨rb, hrb⟩ : ∃ rb, rb = sb + 1 := ⟨_, rfl⟩
  have b0 : Below w.heap.size w (w.alloc (.cells C 47)) := (Below.refl _ _).alloc (Nat.le_refl _) _
  have b1 : Below w.heap.size w w1 := by rw [hw1]; exact b0.alloc b0.size _
  have z1 : w1.heap[sb]? = some (.cells (X.map Value.string).toArray 47 (0, 0)) := by
    rw [hw1, hsb, hC]
    exact (((Below.refl (w.alloc (.cells (X.map Value.string).toArray 47)).heap.size _).alloc (Nat.le_refl _) _).block _ (by simp)).trans (heap_alloc_last w _)
  have y1 : w1.heap[rb]? = some (.cells Z 47 (0, 0)) := by
    rw [hw1, hrb, hsb]
    have := heap_alloc_last (w.alloc (.cells C 47)) (.cells Z 47)
    rw [World.size_alloc] at this
    exact this
  have hne : rb ≠ sb := by omega
  have hsw : w.heap.size ≤ sb := by omega
  have hrw : w.heap.size ≤ rb := by omega
  rw [← hC]
  have hcs : ∀ C : Array Value, (Value.agg C).cells = C := fun _ => rfl
  have HC := Lib.hid hc
  have HT := Lib.hid ht
  have HX := Lib.hid hX
  have HZ := Lib.hid hZ
  clear hC hX hc ht hZ
  go_enter Tryz.func30, Tryz.ntmps30
  go_upto_region 1 with fail
  try simp only [hcs]
  rw [← hw1, ← hsb, ← hrb]
  clear hw1 hsb hrb hcs hz
  go_upto_region 2 with fail
  go_loopw [5] (fun i wr => ∃ k : Nat, k ≤ t.length ∧ i = .int .i64 k ∧ wr.heap[sb]? = some (.cells ((aftL (t.take k) X).map Value.string).toArray 47 (0, 0)) ∧ wr.heap[rb]? = some (.cells Z 47 (0, 0)) ∧ Below w.heap.size w wr) (fun i _ => t.length - (intOf i).toNat)
  case atStart => exact ⟨0, Nat.zero_le _, rfl, z1, y1, b1⟩
  case round =>
    clear z1 y1 b1
    obtain ⟨k, hk, rfl, hs, hr, hb⟩ := hrel
    by_cases hlt : k < t.length
    · have hlt' : (k : Int) < (t.length : Int) := by omega
      obtain ⟨off, rfl, hgb, hcs⟩ := HC.out (fun e => by have := congrArg List.length e; rw [zT_len, List.length_nil] at this; omega)
      have hcc := hcs k (by rw [zT_len]; exact hlt)
      rw [zT_get t k hlt] at hcc
      have h40 := HT.out t[k] (List.getElem_mem _)
      have htk : aftL (t.take (k + 1)) X = (aftL (t.take k) X).set t[k].1 t[k].2 := by rw [List.take_succ_eq_append_getElem hlt, aftL_snoc]
      generalize t[k] = y at *
      obtain ⟨A, Y⟩ := y
      simp only at hcc h40 htk
      have c0 : wr.cell? ⟨g, off + k * 2, none⟩ = some (.int .i64 (A : Int)) := (hb.cell (p := ⟨g, off + k * 2, none⟩) hgb).trans hcc.1
      have c1 : wr.cell? ⟨g, off + k * 2 + 1, none⟩ = some (.string Y) := (hb.cell (p := ⟨g, off + k * 2 + 1, none⟩) hgb).trans hcc.2
      obtain ⟨L1, hL⟩ : ∃ L1, L1 = aftL (t.take k) X := ⟨_, rfl⟩
      have hLl : L1.length = 40 := by rw [hL, aftL_len]; exact HX.out
      rw [← hL] at htk hs
      have hA : (A : Int) < 40 := by omega
      have hcell : wr.cell? ⟨sb, A, none⟩ = some (.string (L1.getD A .empty)) := by
        rw [cell_of hs]
        simp [List.getD_eq_getElem?_getD, List.getElem?_eq_getElem (show A < L1.length by omega)]
      have hfz := fz_of hs A
      have hs2 : (wr.setCell ⟨sb, A, none⟩ (.string Y)).heap[sb]? = some (.cells ((aftL (t.take (k + 1)) X).map Value.string).toArray 47 (0, 0)) := by
        rw [heap_set hs, htk, List.map_set, List.setIfInBounds_toArray]
      have hr2 : (wr.setCell ⟨sb, A, none⟩ (.string Y)).heap[rb]? = some (.cells Z 47 (0, 0)) := (heap_far hne _).trans hr
      have hb2 : Below w.heap.size w (wr.setCell ⟨sb, A, none⟩ (.string Y)) := hb.setCell hsw _
      obtain ⟨wn, hwn⟩ : ∃ wn, wn = wr.setCell ⟨sb, A, none⟩ (.string Y) := ⟨_, rfl⟩
      rw [← hwn] at hs2 hr2 hb2
      have HS := Lib.hid hs
      have HR := Lib.hid hr
      clear hL htk hcs hcc hs hr
      go_upto_region 5 with fail
      go_region
      rw [← hwn]
      clear hwn
      go_wp2
      go_roundw
      case rel => exact ⟨k + 1, by omega, by go_num, hs2, hr2, hb2.drew⟩
      case measure => simp [intOf]; omega
    · obtain rfl : k = t.length := by omega
      rw [List.take_length, ← HL.out] at hs
      have hLl : L.length = 40 := by rw [HL.out, aftL_len]; exact HX.out
      have hI := state_info hLl
      have hI2 : (Tryz.prog.info? 47).map (·.size) = some (L.map Value.string).toArray.size := by rw [List.size_toArray]; exact hI
      have hrg := state_range hs
      have hth : wr.there rb 0 (L.map Value.string).toArray.size := by
        rw [List.size_toArray, List.length_map, hLl]
        rw [HZ.out] at hr
        exact there_of hr (by simp)
      have h1c : (L.map Value.string).toArray.all (·.oneCell') = true := all_oneCell_toArray (fun x hx => by obtain ⟨_, _, rfl⟩ := List.mem_map.1 hx; rfl)
      have hfin : (wr.setCells rb 0 (L.map Value.string)).rangeAt rb 0 (L.map Value.string) := World.rangeAt_setCells_same wr rb 0 _ (by rwa [List.size_toArray] at hth)
      clear hs hr
      go_upto_region 6 with fail
      go_wp2_with (first
        | refine wpList_load_mid rfl 47 (.tmp 2) rfl sb 0 rfl (L.map Value.string) _ hrg Tryz.underlying47 rfl hI ?_
        | refine wpList_store_mid rfl 47 (.tmp 4) (.tmp 37) rfl rb 0 (L.map Value.string).toArray rfl rfl hth hI2 h1c ?_)
      exact bodyPost_ret (v := .agg (L.map Value.string).toArray) (results_cell (t := 4) (ty := 47) (b := rb) (cs := L.map Value.string) rfl _ _ _ rfl hfin Tryz.underlying47 rfl hI) rfl ⟨rfl, below_setCells hrw _ _ _ hb⟩
end Go.Proofs.YteggaeopnljgnaaGreatDoor
