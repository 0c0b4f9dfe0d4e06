/-
  The document's own List and Same.
-/
import Derived.Test.YtnhpebhmihagbaaOctList
import Derived.Deep.QuietTactic
import Derived.BigQuiet
namespace Go.Proofs.Ytnhpebhmihagbaa
open Go.RowKit

theorem ret_str {a b : ByteArray} (h : a = b) : Ending.returned (.string a) = .returned (.string b) := by rw [h]

theorem ret_bool {a b : Bool} (h : a = b) : Ending.returned (.bool a) = .returned (.bool b) := by rw [h]

theorem size_mk (l : List UInt8) : (⟨l.toArray⟩ : ByteArray).size = l.length := by rw [ByteArray.size, List.size_toArray]

set_option maxHeartbeats 1600000 in
theorem refList_some (b off cap : Nat) (ts : List ByteArray) (w : World) (hl : ts.length ≤ 12) (hb : b < w.heap.size) (hsm : ∀ t ∈ ts, t.size ≤ 1000)
    (hc : ∀ j, j < ts.length → w.cell? ⟨b, off + j, none⟩ = some (.string (ts.getD j ByteArray.empty))) :
    Calls Try.prog 20 #[.slice (some ⟨b, off, none⟩) ts.length cap] w fun e w' => e = .returned (.string ⟨(listL ts).toArray⟩) ∧ Below w.heap.size w w' := by
  have HC := Lib.hid hc
  have HS := Lib.hid hsm
  have hp := putL_len ts.length (by omega)
  clear hc hsm
  go_enter Try.func20, Try.ntmps20
  go_wp2_with (first
    | (go_at_call 15; refine (refPut_any _ _ (by omega)).mono ?_; rintro e w1 ⟨rfl, b1⟩))
  go_loopw [3, 4] (fun v i wr => ∃ (k : Nat) (s : ByteArray), k ≤ ts.length ∧ i = .int .i64 k ∧ v = .string s ∧ Hid (s = ⟨(Oct.putL ts.length ++ txtsL (ts.take k)).toArray⟩) ∧ Below w.heap.size w wr)
    (fun _ i _ => ts.length - (intOf i).toNat)
  case atStart => exact ⟨0, Oct.putB ts.length, Nat.zero_le _, rfl, rfl, by simp [Hid, txtsL]; rfl, b1⟩
  case round =>
    obtain ⟨k, s, hk, rfl, rfl, hs, hbl⟩ := hrel
    clear b1
    by_cases hlt : k < ts.length
    · obtain ⟨x, hx⟩ : ∃ x, x = ts.getD k ByteArray.empty := ⟨_, rfl⟩
      have hcx : wr.cell? ⟨b, off + k, none⟩ = some (.string x) := by rw [hx]; exact (hbl.cell (by exact hb)).trans (HC.out k hlt)
      have hxs : x.size ≤ 1000 := by rw [hx]; exact getD_le ts HS.out k
      have hxl := txtL_length x hxs
      have hts := txts_length (ts.take k) (fun t ht => HS.out t (List.mem_of_mem_take ht))
      rw [List.length_take, Nat.min_eq_left hk] at hts
      have hss : s.size ≤ 20000 := by rw [hs.out, size_mk, List.length_append]; omega
      have hxx : (⟨(txtL x).toArray⟩ : ByteArray).size ≤ 20000 := by rw [size_mk]; omega
      have HX := Lib.hid hx
      have HT := Lib.hid (txt_eq x)
      clear hx hts hxl
      go_wp2_with (first
        | (go_at_call 18; refine (refText_any _ _ (by omega)).mono ?_; rw [HT.out]; rintro e w3 ⟨rfl, b3⟩))
      go_roundw
      case rel =>
        refine ⟨k + 1, s ++ ⟨(txtL x).toArray⟩, by omega, by go_num, rfl, ?_, hbl.trans (b3.mono hbl.size)⟩
        show _ = _
        rw [txts_step ts k hlt, ← HX.out, ← List.append_assoc, ← app_list, hs.out]
      case measure => simp [intOf]; omega
    · have e : ts.take k = ts := List.take_of_length_le (by omega)
      rw [e] at hs
      clear e
      go_wp2
      go_ret
      exact ⟨ret_str hs.out, hbl⟩

set_option maxHeartbeats 800000 in
theorem refList_none (a : Option Addr) (cap : Nat) (w : World) :
    Calls Try.prog 20 #[.slice a 0 cap] w fun e w' => e = .returned (.string ⟨(listL []).toArray⟩) ∧ Below w.heap.size w w' := by
  have hp := fun w => refPut_any 0 w (by decide)
  have HP := Lib.hid hp
  clear hp
  go_enter Try.func20, Try.ntmps20
  go_wp2_with (first
    | (go_at_call 15; refine (HP.out _).mono ?_; rintro e w1 ⟨rfl, b1⟩))
  refine wp_loop_rounds 1 ?_
  rw [rounds_succ]
  go_wp2
  go_ret
  exact ⟨rfl, b1⟩

theorem refList_any (v : Value) (ts : List ByteArray) (w : World) (h : StrRow w v ts) (hl : ts.length ≤ 12) (hsm : ∀ t ∈ ts, t.size ≤ 1000) :
    Calls Try.prog 20 #[v] w fun e w' => e = .returned (.string ⟨(listL ts).toArray⟩) ∧ Below w.heap.size w w' := by
  obtain ⟨a, cap, rfl, _, hc⟩ := h
  by_cases hn : ts = []
  · subst hn; exact refList_none a cap w
  · obtain ⟨b, off, rfl, hb, hj⟩ := hc hn
    exact refList_some b off cap ts w hl hb hsm hj

theorem few_small (ts : List ByteArray) : ∀ t ∈ fewL ts, t.size ≤ 1000 := by
  intro t ht
  simp only [fewL, List.mem_map] at ht
  obtain ⟨x, _, rfl⟩ := ht
  have := shortB_size x 100
  omega

set_option maxHeartbeats 1600000 in
theorem same_some (a1 a2 : Option Addr) (c1 c2 : Nat) (ts us : List ByteArray) (w : World) (hlen : ts.length = us.length) (hl : ts.length ≤ 9223372036854775807)
    (h1 : ts ≠ [] → ∃ b off, a1 = some ⟨b, off, none⟩ ∧ b < w.heap.size ∧ ∀ j, j < ts.length → w.cell? ⟨b, off + j, none⟩ = some (.string (ts.getD j ByteArray.empty)))
    (h2 : us ≠ [] → ∃ b off, a2 = some ⟨b, off, none⟩ ∧ b < w.heap.size ∧ ∀ j, j < us.length → w.cell? ⟨b, off + j, none⟩ = some (.string (us.getD j ByteArray.empty))) :
    Calls Try.prog 28 #[.slice a1 ts.length c1, .slice a2 ts.length c2] w fun e w' => e = .returned (.bool (decide (ts = us))) ∧ Below w.heap.size w w' := by
  by_cases hn : ts = []
  · subst hn
    have hu : us = [] := List.eq_nil_of_length_eq_zero (by simpa using hlen.symm)
    subst hu
    clear h1 h2 hlen hl
    go_enter Try.func28, Try.ntmps28
    go_wp2
    refine wp_loop_rounds 1 ?_
    rw [rounds_succ]
    go_wp2
    go_ret
    exact ⟨rfl, Below.refl _ _⟩
  · have hnu : us ≠ [] := by intro e; subst e; exact hn (List.eq_nil_of_length_eq_zero (by simpa using hlen))
    obtain ⟨b, off, rfl, hb, hj⟩ := h1 hn
    obtain ⟨b', off', rfl, hb', hj'⟩ := h2 hnu
    have J := Lib.hid hj
    have J' := Lib.hid hj'
    have HL := Lib.hid hlen
    clear hj hj' h1 h2 hlen
    go_enter Try.func28, Try.ntmps28
    go_wp2
    go_loopw [5] (fun i wr => ∃ (k : Nat), k ≤ ts.length ∧ i = .int .i64 k ∧ Hid (ts.take k = us.take k) ∧ Below w.heap.size w wr)
      (fun i _ => ts.length - (intOf i).toNat)
    case atStart => exact ⟨0, Nat.zero_le _, rfl, rfl, Below.refl _ _⟩
    case round =>
      obtain ⟨k, hk, rfl, hs, hbl⟩ := hrel
      by_cases hlt : k < ts.length
      · obtain ⟨x, hx⟩ : ∃ x, x = ts.getD k ByteArray.empty := ⟨_, rfl⟩
        obtain ⟨y, hy⟩ : ∃ y, y = us.getD k ByteArray.empty := ⟨_, rfl⟩
        have hcx : wr.cell? ⟨b, off + k, none⟩ = some (.string x) := by rw [hx]; exact (hbl.cell (by exact hb)).trans (J.out k hlt)
        have hcy : wr.cell? ⟨b', off' + k, none⟩ = some (.string y) := by rw [hy]; exact (hbl.cell (by exact hb')).trans (J'.out k (by rw [← HL.out]; exact hlt))
        have HX := Lib.hid hx
        have HY := Lib.hid hy
        clear hx hy
        have k0 : (0 : Int) ≤ (k : Int) := by omega
        have k1 : (k : Int) < (ts.length : Int) := by omega
        by_cases hxy : x = y
        · have hbe : (!x.toList == y.toList) = false := by rw [hxy]; simp
          have HE : Hid (ts.take (k + 1) = us.take (k + 1)) := by
            have hlu : k < us.length := by rw [← HL.out]; exact hlt
            have e1 : ts[k] = x := by rw [HX.out]; simp [hlt]
            have e2 : us[k] = y := by rw [HY.out]; simp [hlu]
            show _ = _
            rw [List.take_succ_eq_append_getElem hlt, List.take_succ_eq_append_getElem hlu, e1, e2, hxy, show _ = _ from hs.out]
          clear hxy
          go_wp2
          go_quiet (fail)
          go_wp2
          go_roundw
          case rel => exact ⟨k + 1, by omega, by go_num, HE, below_drewN hbl _⟩
          case measure => simp [intOf]; omega
        · have hbe : (!x.toList == y.toList) = true := by
            have : x.toList ≠ y.toList := fun e => hxy (by
              rw [Lib.toList_data, Lib.toList_data] at e
              rw [← Lib.mk_data x, ← Lib.mk_data y, e])
            simp [this]
          have HE : Hid (false = decide (ts = us)) := by
            show _ = _
            rw [eq_comm, decide_eq_false_iff_not]
            intro e
            exact hxy (by rw [HX.out, HY.out, e])
          clear hxy
          go_wp2
          go_quiet (fail)
          go_wp2
          go_ret
          exact ⟨ret_bool HE.out, below_drewN hbl _⟩
      · have HE : Hid (true = decide (ts = us)) := by
          show _ = _
          rw [eq_comm, decide_eq_true_iff]
          have h := hs.out
          rwa [List.take_of_length_le (by omega), List.take_of_length_le (by rw [← HL.out]; omega)] at h
        go_wp2
        go_ret
        exact ⟨ret_bool HE.out, hbl⟩

theorem same_len (a1 a2 : Option Addr) (l1 l2 c1 c2 : Nat) (w : World) (h : ((l1 : Int) == (l2 : Int)) = false) :
    Calls Try.prog 28 #[.slice a1 l1 c1, .slice a2 l2 c2] w fun e w' => e = .returned (.bool false) ∧ Below w.heap.size w w' := by
  have h' : ((l1 : Int) != (l2 : Int)) = true := by simpa using h
  go_enter Try.func28, Try.ntmps28
  go_wp2
  go_ret
  exact ⟨rfl, Below.refl _ _⟩

theorem same_any (v1 v2 : Value) (ts us : List ByteArray) (w : World) (h1 : StrRow w v1 ts) (h2 : StrRow w v2 us) :
    Calls Try.prog 28 #[v1, v2] w fun e w' => e = .returned (.bool (decide (ts = us))) ∧ Below w.heap.size w w' := by
  obtain ⟨a1, c1, rfl, l1, k1⟩ := h1
  obtain ⟨a2, c2, rfl, l2, k2⟩ := h2
  by_cases hl : ts.length = us.length
  · have := same_some a1 a2 c1 c2 ts us w hl l1 k1 k2
    rw [← hl]
    exact this
  · have hd : decide (ts = us) = false := by rw [decide_eq_false_iff_not]; intro e; exact hl (by rw [e])
    rw [hd]
    exact same_len a1 a2 _ _ c1 c2 w (by simp; omega)
end Go.Proofs.Ytnhpebhmihagbaa
