/-
  Package path: cut; slices of hashes that are cut without room behind.
-/
import Derived.Test.YtagocdcclghdaaaDoorPathPure
import Derived.Test.YtagocdcclghdaaaDoorSumBuild
import Derived.Test.YtagocdcclghdaaaDoorLeafSplit
import Derived.Deep.DeepCutAuto
namespace Go.Proofs.YtagocdcclghdaaaDoor
open Go.RowKit

theorem scut_hm (va : Option Addr) (n cap m : Nat) (h2 : m ≤ cap) (w : World) : (Instr.sliceAt 22 (.slice va n cap) none (some (.int .i64 (m : Int))) (some (.int .i64 (m : Int)))).run Tryd.prog w = .ok (.slice va m m) w := by
  refine (run_sliceAt_slice w _ _ _ _ _ Tryd.underlying22).trans ?_
  rw [run_slice_hm (P := Tryd.prog) w _ va n cap Tryd.underlying22 _ _ _ _ (by omega) (by omega) (by omega), elem_sums, size_sum]
  cases va with
  | none => simp [Result.andThen, sliced]
  | some a => obtain ⟨b, off, s⟩ := a; cases s <;> simp [Result.andThen, sliced, Addr.add]
theorem scut_lhm (va : Option Addr) (n cap k : Nat) (h : k ≤ n) (h2 : n ≤ cap) (w : World) : (Instr.sliceAt 22 (.slice va n cap) (some (.int .i64 (k : Int))) (some (.int .i64 (n : Int))) (some (.int .i64 (n : Int)))).run Tryd.prog w = .ok (.slice (cutS va k n) (n - k) (n - k)) w := by
  refine (run_sliceAt_slice w _ _ _ _ _ Tryd.underlying22).trans ?_
  rw [run_slice_lhm (P := Tryd.prog) w _ va n cap Tryd.underlying22 _ _ _ _ _ _ (by omega) (by omega) (by omega) (by omega), elem_sums, size_sum]
  simp only [Result.andThen, sliced, Int.toNat_natCast, cutS]
theorem Sums.head3 {w : World} {a : Option Addr} {n cap : Nat} {l : Hs} (h : Sums w (.slice a n cap) l) (k : Nat) (hk : k ≤ l.length) (h0 : 0 < k) : Sums w (.slice a k k) (l.take k) := by
  obtain ⟨a', cap', e, h1, h2, h3, h4, h5⟩ := h
  injection e with e1 e2 e3
  subst e1 e2 e3
  have hl : (l.take k).length = k := by rw [List.length_take]; omega
  refine ⟨a, k, by rw [hl], by omega, by omega, fun e => by have := h3 e; omega, h4.take k, fun hn => ?_⟩
  obtain ⟨b, off, rfl, hb, hj⟩ := h5 (by omega)
  exact ⟨b, off, rfl, hb, fun j h => by rw [List.getElem_take]; exact hj j (by omega)⟩
theorem Sums.tail3 {w : World} {a : Option Addr} {n cap : Nat} {l : Hs} (h : Sums w (.slice a n cap) l) (k : Nat) (hk : k < l.length) : Sums w (.slice (cutS a k n) (n - k) (n - k)) (l.drop k) := by
  obtain ⟨a', cap', e, h1, h2, h3, h4, h5⟩ := h
  injection e with e1 e2 e3
  subst e1 e2 e3
  have hl : (l.drop k).length = l.length - k := List.length_drop
  obtain ⟨b, off, rfl, hb, hj⟩ := h5 (by omega)
  have hc : cutS (some ⟨b, off, none⟩) k l.length = some ⟨b, off + k * 32, none⟩ := by
    unfold cutS
    rw [if_neg (by omega), Option.map_some, Addr.add_mid]
  refine ⟨cutS (some ⟨b, off, none⟩) k l.length, l.length - k, by rw [hl], by omega, by omega, fun e => (by rw [hc] at e; cases e), h4.drop k, fun hn => ⟨b, off + k * 32, hc, hb, fun j h => ?_⟩⟩
  rw [List.getElem_drop, show off + k * 32 + j * 32 = off + (k + j) * 32 by omega]
  exact hj (k + j) (by omega)
/-- Both parts lie where the whole does. -/
theorem SumsB.head3 {B : Nat} {w : World} {a : Option Addr} {n cap : Nat} {l : Hs} (h : SumsB B w (.slice a n cap) l) (k : Nat) (hk : k ≤ l.length) (h0 : 0 < k) : SumsB B w (.slice a k k) (l.take k) :=
  ⟨h.1.head3 k hk h0, fun b off n' c' e _ => by injection e with e _ _; exact h.2 b off n cap (by rw [e]) (by omega)⟩
theorem SumsB.tail3 {B : Nat} {w : World} {a : Option Addr} {n cap : Nat} {l : Hs} (h : SumsB B w (.slice a n cap) l) (k : Nat) (hk : k < l.length) : SumsB B w (.slice (cutS a k n) (n - k) (n - k)) (l.drop k) := by
  refine ⟨h.1.tail3 k hk, fun b off n' c' e _ => ?_⟩
  obtain ⟨b', off', rfl, _⟩ := h.1.at 0 (by omega)
  have hn := h.1.len.1
  have hc : cutS (some ⟨b', off', none⟩) k n = some ⟨b', off' + k * 32, none⟩ := by
    unfold cutS
    rw [if_neg (by omega), Option.map_some, Addr.add_mid]
  rw [hc] at e
  injection e with e _ _
  injection e with e
  injection e with e _ _
  subst e
  exact h.2 b' off' n cap rfl (by omega)
set_option maxHeartbeats 1000000 in
set_option maxRecDepth 100000 in
theorem cut_any (va : Option Addr) (n cap k : Nat) (hk : k = Tree.split n) (h2 : 2 ≤ n) (hlc : n ≤ cap) (hn : n ≤ 9223372036854775807) (w : World) :
    Calls Tryd.prog 27 #[.slice va n cap] w fun e w' => e = .returned (.tuple #[.slice va k k, .slice (cutS va k n) (n - k) (n - k)]) ∧ Below w.heap.size w w' := by
  have hlt := Tree.split_lt h2
  have hkn : k ≤ n := by omega
  have hkc : k ≤ cap := by omega
  have HSP : Hid (∀ u : World, Calls Tryd.prog 33 #[.int .i64 (n : Int)] u fun e w' => e = .returned (.int .i64 (k : Int)) ∧ u = w') := Lib.hid fun u => by
    have := leafSplit_any (n : Int) (by omega) u
    rwa [Int.toNat_natCast, ← hk] at this
  clear hk hlt
  go_enter Tryd.func27, Tryd.ntmps27
  go_upto_region 2 with (go_at_call 33; ((with_reducible refine (HSP.out _).mono ?_); rintro e w1 ⟨rfl, rfl⟩))
  try simp only [Act.put]
  refine wp_region_tab [RT.is (.slice va n cap), RT.is (.int .i64 (k : Int)), RT.is (.int .i64 (k : Int)), RT.is (.slice va k k), RT.is (.slice va n cap), RT.is (.int .i64 (k : Int)), RT.is (.slice va n cap), RT.is (.int .i64 (n : Int)), RT.is (.slice va n cap), RT.is (.int .i64 (n : Int)), RT.is (.slice (cutS va k n) (n - k) (n - k)), RT.is (.slice va k k), RT.is (.slice (cutS va k n) (n - k) (n - k))] (by kernel_rfl) (by kernel_rfl) (by kernel_rfl) (by kernel_rfl) ⟨?_, ?_, ?_, ?_, ?_, ?_, ?_, ?_, ?_, ?_, ?_, ?_, ?_, trivial⟩ ?_
  · intro ac w' hF hL hP hU K hK
    have hB := below_undrew hL
    have e0 : ac.eval (.tmp 0) = .slice va n cap := hF.at 0 (by kernel_rfl)
    exact rop_move _ rfl e0 (wanted_none rfl) (hK _ _ (le8_refl _) rfl)
  · intro ac w' hF hL hP hU K hK
    have hB := below_undrew hL
    have e4 : ac.eval (.tmp 4) = .int .i64 (k : Int) := hF.at 4 (by kernel_rfl)
    exact rop_move _ rfl e4 (wanted_none rfl) (hK _ _ (le8_refl _) rfl)
  · intro ac w' hF hL hP hU K hK
    have hB := below_undrew hL
    have e4 : ac.eval (.tmp 4) = .int .i64 (k : Int) := hF.at 4 (by kernel_rfl)
    exact rop_move _ rfl e4 (wanted_none rfl) (hK _ _ (le8_refl _) rfl)
  · intro ac w' hF hL hP hU K hK
    have hB := below_undrew hL
    have e8 : ac.eval (.tmp 8) = .slice va n cap := hP 0 (by kernel_rfl)
    have e9 : ac.eval (.tmp 9) = .int .i64 (k : Int) := hP 1 (by kernel_rfl)
    have e10 : ac.eval (.tmp 10) = .int .i64 (k : Int) := hP 2 (by kernel_rfl)
    exact rop_sliceG _ _ _ _ _ rfl e8 rfl (by simp [e9]) (by simp [e10]) (scut_hm va n cap k hkc w') (wanted_none rfl) (hK _ _ (le8_refl _) rfl)
  · intro ac w' hF hL hP hU K hK
    have hB := below_undrew hL
    have e0 : ac.eval (.tmp 0) = .slice va n cap := hF.at 0 (by kernel_rfl)
    exact rop_move _ rfl e0 (wanted_none rfl) (hK _ _ (le8_refl _) rfl)
  · intro ac w' hF hL hP hU K hK
    have hB := below_undrew hL
    have e4 : ac.eval (.tmp 4) = .int .i64 (k : Int) := hF.at 4 (by kernel_rfl)
    exact rop_move _ rfl e4 (wanted_none rfl) (hK _ _ (le8_refl _) rfl)
  · intro ac w' hF hL hP hU K hK
    have hB := below_undrew hL
    have e0 : ac.eval (.tmp 0) = .slice va n cap := hF.at 0 (by kernel_rfl)
    exact rop_move _ rfl e0 (wanted_none rfl) (hK _ _ (le8_refl _) rfl)
  · intro ac w' hF hL hP hU K hK
    have hB := below_undrew hL
    have e14 : ac.eval (.tmp 14) = .slice va n cap := hP 6 (by kernel_rfl)
    exact rop_lenG _ Tryd.underlying22 rfl e14 (wanted_none rfl) (hK _ _ (le8_refl _) rfl)
  · intro ac w' hF hL hP hU K hK
    have hB := below_undrew hL
    have e0 : ac.eval (.tmp 0) = .slice va n cap := hF.at 0 (by kernel_rfl)
    exact rop_move _ rfl e0 (wanted_none rfl) (hK _ _ (le8_refl _) rfl)
  · intro ac w' hF hL hP hU K hK
    have hB := below_undrew hL
    have e16 : ac.eval (.tmp 16) = .slice va n cap := hP 8 (by kernel_rfl)
    exact rop_lenG _ Tryd.underlying22 rfl e16 (wanted_none rfl) (hK _ _ (le8_refl _) rfl)
  · intro ac w' hF hL hP hU K hK
    have hB := below_undrew hL
    have e12 : ac.eval (.tmp 12) = .slice va n cap := hP 4 (by kernel_rfl)
    have e13 : ac.eval (.tmp 13) = .int .i64 (k : Int) := hP 5 (by kernel_rfl)
    have e15 : ac.eval (.tmp 15) = .int .i64 (n : Int) := hP 7 (by kernel_rfl)
    have e17 : ac.eval (.tmp 17) = .int .i64 (n : Int) := hP 9 (by kernel_rfl)
    exact rop_sliceG _ _ _ _ _ rfl e12 (by simp [e13]) (by simp [e15]) (by simp [e17]) (scut_lhm va n cap k hkn hlc w') (wanted_none rfl) (hK _ _ (le8_refl _) rfl)
  · intro ac w' hF hL hP hU K hK
    have hB := below_undrew hL
    have e11 : ac.eval (.tmp 11) = .slice va k k := hP 3 (by kernel_rfl)
    exact rop_assign _ rfl e11 (wanted_none rfl) (hK _ _ (le8_refl _) rfl)
  · intro ac w' hF hL hP hU K hK
    have hB := below_undrew hL
    have e18 : ac.eval (.tmp 18) = .slice (cutS va k n) (n - k) (n - k) := hP 10 (by kernel_rfl)
    exact rop_assign _ rfl e18 (wanted_none rfl) (hK _ _ (le8_refl _) rfl)
  · intro ac w' hF hB hT
    have e2 : ac.eval (.tmp 2) = .slice va k k := hT 11 (by decide)
    have e3 : ac.eval (.tmp 3) = .slice (cutS va k n) (n - k) (n - k) := hT 12 (by decide)
    rw [hF.setsG [8, 9, 10, 11, 12, 13, 14, 15, 16, 17, 18, 2, 3] (by kernel_rfl)]
    simp only [List.foldl_cons, List.foldl_nil, List.setIfInBounds_toArray, List.set_cons_succ, List.set_cons_zero, e2, e3]
    generalize ac.eval (.tmp 8) = u8
    generalize ac.eval (.tmp 9) = u9
    generalize ac.eval (.tmp 10) = u10
    generalize ac.eval (.tmp 11) = u11
    generalize ac.eval (.tmp 12) = u12
    generalize ac.eval (.tmp 13) = u13
    generalize ac.eval (.tmp 14) = u14
    generalize ac.eval (.tmp 15) = u15
    generalize ac.eval (.tmp 16) = u16
    generalize ac.eval (.tmp 17) = u17
    generalize ac.eval (.tmp 18) = u18
    clear e2 e3 hT hF ac
    go_wp2
    go_ret2
    exact ⟨rfl, hB⟩
end Go.Proofs.YtagocdcclghdaaaDoor
