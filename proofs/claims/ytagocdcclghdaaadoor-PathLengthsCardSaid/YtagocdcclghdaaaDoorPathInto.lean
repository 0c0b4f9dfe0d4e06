/-
  Package path: the closure of Path, and Path.
-/
import Derived.Test.YtagocdcclghdaaaDoorPathVar
import Derived.Deep.DeepCutAuto
import Derived.Laws.EntriesVeiled
namespace Go.Proofs.YtagocdcclghdaaaDoor
open Go.RowKit

set_option maxHeartbeats 3200000 in
set_option maxRecDepth 100000 in
theorem into_any (B cp ci : Nat) (hB0 : 0 < B) (n : Nat) : ∀ (l : Hs) (m : Nat) (P : Hs) (v : Value) (w : World), l.length = n → P.length + n ≤ 100000 → m < l.length → SumsB B w v l → IC B cp ci 41 (.func (.func 26) #[] #[.pointer (some ⟨ci, 0, none⟩), .pointer (some ⟨cp, 0, none⟩)]) P w → KT w →
    Calls Tryd.prog 26 #[v, .int .i64 (m : Int), .pointer (some ⟨ci, 0, none⟩), .pointer (some ⟨cp, 0, none⟩)] w fun e w' => e = .returned (.tuple #[]) ∧ IC B cp ci 41 (.func (.func 26) #[] #[.pointer (some ⟨ci, 0, none⟩), .pointer (some ⟨cp, 0, none⟩)]) (P ++ Tree.path l m) w' ∧ Below B w w' := by
  have hTn : 41 ≠ 35 := by decide
  induction n using Nat.strongRecOn with
  | _ n ih =>
  intro l m P v w hlen hP hm hv hI hK
  obtain ⟨va, cap, rfl, hlc, hcap⟩ := hv.1.slice
  by_cases h1 : l.length = 1
  · have hpe : Tree.path l m = [] := Tree.path_small (by omega)
    rw [hpe, List.append_nil, h1]
    have HI := Lib.hid hI
    clear hpe hI hv ih h1 hm hlc hK
    go_enter Tryd.func26, Tryd.ntmps26
    go_wp2
    refine bodyPost_ret (results_none rfl _ _ _) rfl ?_
    exact ⟨rfl, HI.out, Below.refl _ _⟩
  obtain ⟨k, hk⟩ : ∃ k, k = Tree.split l.length := ⟨_, rfl⟩
  have h2 : 2 ≤ l.length := by omega
  have hlt := Tree.split_lt h2
  have hps := Tree.split_pos h2
  rw [← hk] at hlt hps
  have hcut := fun u => cut_any va l.length cap k hk h2 hlc (by omega) u
  have sh := hv.head3 k (by omega) hps
  have st := hv.tail3 k hlt
  have l1 : (l.take k).length = k := by rw [List.length_take]; omega
  have l2 : (l.drop k).length = l.length - k := List.length_drop
  have ho : all32 l := hv.1.ok
  have hsz := hI.size
  have hpl : m < k → Tree.path l m = Tree.path (l.take k) m ++ [Tree.root (l.drop k)] := fun h => by rw [Tree.path_left h2 (by omega), hk]
  have hpr : ¬ m < k → Tree.path l m = Tree.path (l.drop k) (m - k) ++ [Tree.root (l.take k)] := fun h => by rw [Tree.path_right h2 (by omega), hk]
  have hpn : ∀ (l' : Hs) (m' : Nat), (Tree.path l' m').length ≤ l'.length := fun l' m' => by
    rw [Tree.path_length _ _ _ (Nat.le_refl _)]
    exact Tree.long_le _ _ _ (Nat.le_of_lt Nat.lt_two_pow_self)
  rw [hlen] at hcut st hlc hlt hm l2 h2 ⊢
  have h1' : ¬ (n : Int) = 1 := by omega
  have HCUT := Lib.hid hcut
  have HI := Lib.hid hI
  have HK := Lib.hid hK
  have HSH := Lib.hid sh
  have HST := Lib.hid st
  have Ho := Lib.hid ho
  by_cases hmk : m < k
  · have hmk' : (m : Int) < (k : Int) := by omega
    obtain ⟨D, hD⟩ : ∃ D, D = Tree.root (l.drop k) := ⟨_, rfl⟩
    have HDl : Hid (D.length = 32) := Lib.hid (by rw [hD]; exact Tree.root_length _ (ho.drop k))
    obtain ⟨P1, hP1⟩ : ∃ P1, P1 = P ++ Tree.path (l.take k) m := ⟨_, rfl⟩
    have hres : P ++ Tree.path l m = P1 ++ [D] := by rw [hpl hmk, hP1, hD, List.append_assoc]
    have HPl : Hid (P1.length ≤ 1000000) := Lib.hid (by rw [hP1, List.length_append]; have := hpn (l.take k) m; omega)
    have HRES := Lib.hid hres
    have HIH : Hid (∀ u : World, Below w.heap.size w u → Calls Tryd.prog 26 #[.slice va k k, .int .i64 (m : Int), .pointer (some ⟨ci, 0, none⟩), .pointer (some ⟨cp, 0, none⟩)] u fun e w' => e = .returned (.tuple #[]) ∧ IC B cp ci 41 (.func (.func 26) #[] #[.pointer (some ⟨ci, 0, none⟩), .pointer (some ⟨cp, 0, none⟩)]) P1 w' ∧ Below B u w') := Lib.hid fun u hu => by
      rw [hP1]
      exact ih k hlt (l.take k) m P _ u l1 (by omega) (by omega) (HSH.out.keep (hu.mono hsz)) (HI.out.old hu) (HK.out.old hu)
    have HRt0 : Hid (∀ u : World, Below B w u → Calls Tryd.prog 28 #[.slice (cutS va k n) (n - k) (n - k)] u fun e w' => e = .returned (sumV D) ∧ Below u.heap.size u w') := Lib.hid fun u hu => by
      rw [hD]
      exact leafRoot_any _ (l.drop k) _ u rfl (by omega) (HST.out.keep hu).1 (HK.out.oldB hu hB0)
    have HSZ := Lib.hid hsz
    clear hcut hI hK sh st ho hD hP1 hres hpl hpr hpn ih l1 l2 hk hlen h1 hv hP hsz
    go_enter Tryd.func26, Tryd.ntmps26
    go_upto_region 4 with (first
      | (go_at_call 27; ((with_reducible refine (HCUT.out _).mono ?_); rintro e w1 ⟨rfl, b1⟩; have hc1 : w1.cell? ⟨ci, 0, none⟩ = some (.func (.func 26) #[] #[.pointer (some ⟨ci, 0, none⟩), .pointer (some ⟨cp, 0, none⟩)]) := (cell_of (HI.out.old b1).fn 0).trans rfl))
      | (go_at_call 26; ((with_reducible refine (HIH.out _ b1).mono ?_); rintro e w2 ⟨rfl, hI2, b2⟩)))
    have b3 : Below B w w2 := (b1.mono HSZ.out).trans b2
    obtain ⟨W, hW⟩ : ∃ W, W = w2 := ⟨_, rfl⟩
    subst hW
    have HI := Lib.hid hI2
    have HRt : Hid (∀ u : World, Below W.heap.size W u → Calls Tryd.prog 28 #[.slice (cutS va k n) (n - k) (n - k)] u fun e w' => e = .returned (sumV D) ∧ Below u.heap.size u w') := Lib.hid fun u hu => HRt0.out u (b3.trans (hu.mono hI2.size))
    have B3 := Lib.hid b3
    obtain ⟨P, hPP⟩ : ∃ P, P = P1 := ⟨_, rfl⟩
    subst hPP
    clear hI2 b3 b1 b2 hc1
    obtain ⟨v0, hv0, ho0⟩ := HI.out.row
    obtain ⟨a0, c0, rfl, -, -⟩ := ho0.sums.slice
    obtain ⟨n0, hn0⟩ : ∃ n0, n0 = List.length P := ⟨_, rfl⟩
    rw [← hn0] at hv0
    have HC := Lib.hid hv0
    have hcpW := HI.out.lt.1
    clear hv0 ho0 hn0

    try simp only [Act.put]
    refine wp_region_ph (Lx := GLy 3) [RXP.is (.slice a0 n0 c0), RXP.is (.slice (cutS va k n) (n - k) (n - k)), RXP.is (sumV D), RXP.tillY (fun v w => Sums w v [D]) (fun _ _ _ h k => h.old k), RXP.atY (fun v w => OwnS B w v (P ++ [D])), RXP.any] [2, 3, 4, 5] (fun k w' => (k < 3 → Below W.heap.size W w') ∧ (k = 3 → Below B W w' ∧ w'.heap[cp]? = some (.cells #[.slice a0 n0 c0] 22 (0, 0)) ∧ w'.heap[ci]? = some (.cells #[(.func (.func 26) #[] #[.pointer (some ⟨ci, 0, none⟩), .pointer (some ⟨cp, 0, none⟩)])] 41 (0, 0))) ∧ (k = 4 → IC B cp ci 41 (.func (.func 26) #[] #[.pointer (some ⟨ci, 0, none⟩), .pointer (some ⟨cp, 0, none⟩)]) (P ++ [D]) w' ∧ Below B W w')) (by kernel_rfl) (by kernel_rfl) (by kernel_rfl) (by kernel_rfl) (by kernel_rfl) (⟨fun _ => below_drew (Below.refl _ _), fun h => absurd h (by decide), fun h => absurd h (by decide)⟩) ⟨?_, ?_, ?_, ?_, ?_, ?_, trivial⟩ ?_
    · intro ac w' ph hF hPh hlt hP hU K hK0
      have hph : ph ≤ 2 := (hlt 2 4 rfl).2 (by kernel_rfl)
      have e3 : ac.eval (.tmp 3) = .pointer (some ⟨cp, 0, none⟩) := hF.at 3 (by kernel_rfl)
      exact rop_ld _ _ rfl e3 (load_sumslP ((cell_of (((hPh.1 (by omega)).block _ hcpW).trans HC.out) 0).trans rfl)) (wanted_none rfl) (hK0 _ _ GLy.same hPh rfl)
    · intro ac w' ph hF hPh hlt hP hU K hK0
      have e7 : ac.eval (.tmp 7) = .slice (cutS va k n) (n - k) (n - k) := hF.at 7 (by kernel_rfl)
      exact rop_move _ rfl e7 (wanted_none rfl) (hK0 _ _ GLy.same hPh rfl)
    · intro ac w' ph hF hPh hlt hP hU K hK0
      obtain rfl : ph = 0 := (hlt 0 2 rfl).1 rfl
      have e25 : ac.eval (.tmp 25) = .slice (cutS va k n) (n - k) (n - k) := hP 1 (by kernel_rfl)
      have hB : Below W.heap.size W w' := hPh.1 (by omega)
      refine rop_call 28 _ _ rfl #[.slice (cutS va k n) (n - k) (n - k)] (by simp [e25]) (by kernel_rfl) (wanted_none rfl) ?_
      refine (HRt.out w' hB).mono ?_
      rintro e w2 ⟨rfl, hb⟩
      exact ⟨_, rfl, hK0 _ _ (GLy.old hb) ⟨fun _ => below_step hB (Nat.le_refl _) hb, fun h => absurd h (by decide), fun h => absurd h (by decide)⟩ rfl⟩
    · intro ac w' ph hF hPh hlt hP hU K hK0
      obtain rfl : ph = 1 := (hlt 1 3 rfl).1 rfl
      have e26 : ac.eval (.tmp 26) = sumV D := hP 2 (by kernel_rfl)
      have hB : Below W.heap.size W w' := hPh.1 (by omega)
      exact rop_bslG _ _ _ rfl #[(0, sumV D)] (by simp [e26]) (build_sum1 D HDl.out w') (wanted_none rfl) (hK0 _ _ (GLy.old ((Below.refl _ _).alloc (Nat.le_refl _) _)) ⟨fun _ => below_step hB (Nat.le_refl _) ((Below.refl w'.heap.size w').alloc (Nat.le_refl _) (.cells (D.map u8V).toArray 35)), fun h => absurd h (by decide), fun h => absurd h (by decide)⟩ (fun _ => Sums.one w' D HDl.out))
    · intro ac w' ph hF hPh hlt hP hU K hK0
      obtain rfl : ph = 2 := (hlt 2 4 rfl).1 rfl
      have e24 : ac.eval (.tmp 24) = .slice a0 n0 c0 := hP 0 (by kernel_rfl)
      have e27 : 2 < 3 → Sums w' (ac.eval (.tmp 27)) [D] := hP 3 (by kernel_rfl)
      have hB : Below W.heap.size W w' := hPh.1 (by omega)
      obtain ⟨v6, w6, hr6, ho6, b6, c6, f6⟩ := IC.app HI.out hTn HC.out hB (e27 (by decide)) HPl.out 22
      exact rop_appendG _ _ _ rfl e24 rfl hr6 (wanted_none rfl) (hK0 _ _ (GLy.own (by decide)) ⟨fun h => absurd h (by decide), fun _ => ⟨b6, c6, f6⟩, fun h => absurd h (by decide)⟩ ⟨Nat.le_refl _, fun _ => ho6⟩)
    · intro ac w' ph hF hPh hlt hP hU K hK0
      obtain rfl : ph = 3 := (hlt 3 5 rfl).1 rfl
      have e3 : ac.eval (.tmp 3) = .pointer (some ⟨cp, 0, none⟩) := hF.at 3 (by kernel_rfl)
      have e28 : 3 ≤ 3 ∧ (3 = 3 → OwnS B w' (ac.eval (.tmp 28)) (P ++ [D])) := hP 4 (by kernel_rfl)
      obtain ⟨b6, c6, f6⟩ := hPh.2.1 rfl
      have ho6 := e28.2 rfl
      have hic := IC.put ho6 c6 f6 HI.out.lc HI.out.li HI.out.ne
      have hbb := b6.setCell (p := ⟨cp, 0, none⟩) HI.out.lc (ac.eval (.tmp 28))
      obtain ⟨a6, k6, hsl, -, -⟩ := ho6.sums.slice
      rw [hsl] at e28 hic hbb
      have hstore := store_sumsl (x := a6) (n := (P ++ [D]).length) (c := k6) ((cell_of c6 0).trans rfl) (fz_of c6 0)
      exact rop_storeG _ _ _ rfl e3 hsl hstore (wanted_none rfl) (hK0 _ _ (GLy.own (by decide)) ⟨fun h => absurd h (by decide), fun h => absurd h (by decide), fun _ => ⟨hic, hbb⟩⟩ trivial)
    · intro ac w' hF hPh hT
      rw [hF.setsG [24, 25, 26, 27, 28] (by kernel_rfl)]
      simp only [List.foldl_cons, List.foldl_nil, List.setIfInBounds_toArray, List.set_cons_succ, List.set_cons_zero]
      generalize ac.eval (.tmp 24) = u24
      generalize ac.eval (.tmp 25) = u25
      generalize ac.eval (.tmp 26) = u26
      generalize ac.eval (.tmp 27) = u27
      generalize ac.eval (.tmp 28) = u28
      clear  hT hF ac
      obtain ⟨hIe, hbe⟩ := hPh.2.2 rfl
      have HIe := Lib.hid hIe
      have hbf := B3.out.trans hbe
      clear hPh hIe
      go_wp2
      first | go_end0 | refine bodyPost_ret (results_none rfl _ _ _) rfl ?_
      exact ⟨rfl, by rw [HRES.out]; exact HIe.out, hbf⟩
  · have hmk' : ¬ (m : Int) < (k : Int) := by omega
    obtain ⟨D, hD⟩ : ∃ D, D = Tree.root (l.take k) := ⟨_, rfl⟩
    have HDl : Hid (D.length = 32) := Lib.hid (by rw [hD]; exact Tree.root_length _ (ho.take k))
    obtain ⟨P1, hP1⟩ : ∃ P1, P1 = P ++ Tree.path (l.drop k) (m - k) := ⟨_, rfl⟩
    have hres : P ++ Tree.path l m = P1 ++ [D] := by rw [hpr hmk, hP1, hD, List.append_assoc]
    have HPl : Hid (P1.length ≤ 1000000) := Lib.hid (by rw [hP1, List.length_append]; have := hpn (l.drop k) (m - k); omega)
    have HRES := Lib.hid hres
    have hsub := IntWalk.i64_in ((m : Int) - (k : Int)) (by omega)
    have HIH : Hid (∀ u : World, Below w.heap.size w u → Calls Tryd.prog 26 #[.slice (cutS va k n) (n - k) (n - k), .int .i64 ((m : Int) - (k : Int)), .pointer (some ⟨ci, 0, none⟩), .pointer (some ⟨cp, 0, none⟩)] u fun e w' => e = .returned (.tuple #[]) ∧ IC B cp ci 41 (.func (.func 26) #[] #[.pointer (some ⟨ci, 0, none⟩), .pointer (some ⟨cp, 0, none⟩)]) P1 w' ∧ Below B u w') := Lib.hid fun u hu => by
      rw [hP1, ← Int.ofNat_sub (by omega)]
      exact ih (n - k) (by omega) (l.drop k) (m - k) P _ u l2 (by omega) (by omega) (HST.out.keep (hu.mono hsz)) (HI.out.old hu) (HK.out.old hu)
    have HRt0 : Hid (∀ u : World, Below B w u → Calls Tryd.prog 28 #[.slice va k k] u fun e w' => e = .returned (sumV D) ∧ Below u.heap.size u w') := Lib.hid fun u hu => by
      rw [hD]
      exact leafRoot_any _ (l.take k) _ u rfl (by omega) (HSH.out.keep hu).1 (HK.out.oldB hu hB0)
    have HSZ := Lib.hid hsz
    clear hcut hI hK sh st ho hD hP1 hres hpl hpr hpn ih l1 l2 hk hlen h1 hv hP hsz
    go_enter Tryd.func26, Tryd.ntmps26
    go_upto_region 6 with (first
      | (go_at_call 27; ((with_reducible refine (HCUT.out _).mono ?_); rintro e w1 ⟨rfl, b1⟩; have hc1 : w1.cell? ⟨ci, 0, none⟩ = some (.func (.func 26) #[] #[.pointer (some ⟨ci, 0, none⟩), .pointer (some ⟨cp, 0, none⟩)]) := (cell_of (HI.out.old b1).fn 0).trans rfl))
      | (go_at_call 26; ((with_reducible refine (HIH.out _ b1).mono ?_); rintro e w2 ⟨rfl, hI2, b2⟩)))
    have b3 : Below B w w2 := (b1.mono HSZ.out).trans b2
    obtain ⟨W, hW⟩ : ∃ W, W = w2 := ⟨_, rfl⟩
    subst hW
    have HI := Lib.hid hI2
    have HRt : Hid (∀ u : World, Below W.heap.size W u → Calls Tryd.prog 28 #[.slice va k k] u fun e w' => e = .returned (sumV D) ∧ Below u.heap.size u w') := Lib.hid fun u hu => HRt0.out u (b3.trans (hu.mono hI2.size))
    have B3 := Lib.hid b3
    obtain ⟨P, hPP⟩ : ∃ P, P = P1 := ⟨_, rfl⟩
    subst hPP
    clear hI2 b3 b1 b2 hc1
    obtain ⟨v0, hv0, ho0⟩ := HI.out.row
    obtain ⟨a0, c0, rfl, -, -⟩ := ho0.sums.slice
    obtain ⟨n0, hn0⟩ : ∃ n0, n0 = List.length P := ⟨_, rfl⟩
    rw [← hn0] at hv0
    have HC := Lib.hid hv0
    have hcpW := HI.out.lt.1
    clear hv0 ho0 hn0

    try simp only [Act.put]
    refine wp_region_ph (Lx := GLy 3) [RXP.is (.slice a0 n0 c0), RXP.is (.slice va k k), RXP.is (sumV D), RXP.tillY (fun v w => Sums w v [D]) (fun _ _ _ h k => h.old k), RXP.atY (fun v w => OwnS B w v (P ++ [D])), RXP.any] [2, 3, 4, 5] (fun k w' => (k < 3 → Below W.heap.size W w') ∧ (k = 3 → Below B W w' ∧ w'.heap[cp]? = some (.cells #[.slice a0 n0 c0] 22 (0, 0)) ∧ w'.heap[ci]? = some (.cells #[(.func (.func 26) #[] #[.pointer (some ⟨ci, 0, none⟩), .pointer (some ⟨cp, 0, none⟩)])] 41 (0, 0))) ∧ (k = 4 → IC B cp ci 41 (.func (.func 26) #[] #[.pointer (some ⟨ci, 0, none⟩), .pointer (some ⟨cp, 0, none⟩)]) (P ++ [D]) w' ∧ Below B W w')) (by kernel_rfl) (by kernel_rfl) (by kernel_rfl) (by kernel_rfl) (by kernel_rfl) (⟨fun _ => below_drew (Below.refl _ _), fun h => absurd h (by decide), fun h => absurd h (by decide)⟩) ⟨?_, ?_, ?_, ?_, ?_, ?_, trivial⟩ ?_
    · intro ac w' ph hF hPh hlt hP hU K hK0
      have hph : ph ≤ 2 := (hlt 2 4 rfl).2 (by kernel_rfl)
      have e3 : ac.eval (.tmp 3) = .pointer (some ⟨cp, 0, none⟩) := hF.at 3 (by kernel_rfl)
      exact rop_ld _ _ rfl e3 (load_sumslP ((cell_of (((hPh.1 (by omega)).block _ hcpW).trans HC.out) 0).trans rfl)) (wanted_none rfl) (hK0 _ _ GLy.same hPh rfl)
    · intro ac w' ph hF hPh hlt hP hU K hK0
      have e6 : ac.eval (.tmp 6) = .slice va k k := hF.at 6 (by kernel_rfl)
      exact rop_move _ rfl e6 (wanted_none rfl) (hK0 _ _ GLy.same hPh rfl)
    · intro ac w' ph hF hPh hlt hP hU K hK0
      obtain rfl : ph = 0 := (hlt 0 2 rfl).1 rfl
      have e37 : ac.eval (.tmp 37) = .slice va k k := hP 1 (by kernel_rfl)
      have hB : Below W.heap.size W w' := hPh.1 (by omega)
      refine rop_call 28 _ _ rfl #[.slice va k k] (by simp [e37]) (by kernel_rfl) (wanted_none rfl) ?_
      refine (HRt.out w' hB).mono ?_
      rintro e w2 ⟨rfl, hb⟩
      exact ⟨_, rfl, hK0 _ _ (GLy.old hb) ⟨fun _ => below_step hB (Nat.le_refl _) hb, fun h => absurd h (by decide), fun h => absurd h (by decide)⟩ rfl⟩
    · intro ac w' ph hF hPh hlt hP hU K hK0
      obtain rfl : ph = 1 := (hlt 1 3 rfl).1 rfl
      have e38 : ac.eval (.tmp 38) = sumV D := hP 2 (by kernel_rfl)
      have hB : Below W.heap.size W w' := hPh.1 (by omega)
      exact rop_bslG _ _ _ rfl #[(0, sumV D)] (by simp [e38]) (build_sum1 D HDl.out w') (wanted_none rfl) (hK0 _ _ (GLy.old ((Below.refl _ _).alloc (Nat.le_refl _) _)) ⟨fun _ => below_step hB (Nat.le_refl _) ((Below.refl w'.heap.size w').alloc (Nat.le_refl _) (.cells (D.map u8V).toArray 35)), fun h => absurd h (by decide), fun h => absurd h (by decide)⟩ (fun _ => Sums.one w' D HDl.out))
    · intro ac w' ph hF hPh hlt hP hU K hK0
      obtain rfl : ph = 2 := (hlt 2 4 rfl).1 rfl
      have e36 : ac.eval (.tmp 36) = .slice a0 n0 c0 := hP 0 (by kernel_rfl)
      have e39 : 2 < 3 → Sums w' (ac.eval (.tmp 39)) [D] := hP 3 (by kernel_rfl)
      have hB : Below W.heap.size W w' := hPh.1 (by omega)
      obtain ⟨v6, w6, hr6, ho6, b6, c6, f6⟩ := IC.app HI.out hTn HC.out hB (e39 (by decide)) HPl.out 22
      exact rop_appendG _ _ _ rfl e36 rfl hr6 (wanted_none rfl) (hK0 _ _ (GLy.own (by decide)) ⟨fun h => absurd h (by decide), fun _ => ⟨b6, c6, f6⟩, fun h => absurd h (by decide)⟩ ⟨Nat.le_refl _, fun _ => ho6⟩)
    · intro ac w' ph hF hPh hlt hP hU K hK0
      obtain rfl : ph = 3 := (hlt 3 5 rfl).1 rfl
      have e3 : ac.eval (.tmp 3) = .pointer (some ⟨cp, 0, none⟩) := hF.at 3 (by kernel_rfl)
      have e40 : 3 ≤ 3 ∧ (3 = 3 → OwnS B w' (ac.eval (.tmp 40)) (P ++ [D])) := hP 4 (by kernel_rfl)
      obtain ⟨b6, c6, f6⟩ := hPh.2.1 rfl
      have ho6 := e40.2 rfl
      have hic := IC.put ho6 c6 f6 HI.out.lc HI.out.li HI.out.ne
      have hbb := b6.setCell (p := ⟨cp, 0, none⟩) HI.out.lc (ac.eval (.tmp 40))
      obtain ⟨a6, k6, hsl, -, -⟩ := ho6.sums.slice
      rw [hsl] at e40 hic hbb
      have hstore := store_sumsl (x := a6) (n := (P ++ [D]).length) (c := k6) ((cell_of c6 0).trans rfl) (fz_of c6 0)
      exact rop_storeG _ _ _ rfl e3 hsl hstore (wanted_none rfl) (hK0 _ _ (GLy.own (by decide)) ⟨fun h => absurd h (by decide), fun h => absurd h (by decide), fun _ => ⟨hic, hbb⟩⟩ trivial)
    · intro ac w' hF hPh hT
      rw [hF.setsG [36, 37, 38, 39, 40] (by kernel_rfl)]
      simp only [List.foldl_cons, List.foldl_nil, List.setIfInBounds_toArray, List.set_cons_succ, List.set_cons_zero]
      generalize ac.eval (.tmp 36) = u36
      generalize ac.eval (.tmp 37) = u37
      generalize ac.eval (.tmp 38) = u38
      generalize ac.eval (.tmp 39) = u39
      generalize ac.eval (.tmp 40) = u40
      clear  hT hF ac
      obtain ⟨hIe, hbe⟩ := hPh.2.2 rfl
      have HIe := Lib.hid hIe
      have hbf := B3.out.trans hbe
      clear hPh hIe
      go_wp2
      first | go_end0 | refine bodyPost_ret (results_none rfl _ _ _) rfl ?_
      exact ⟨rfl, by rw [HRES.out]; exact HIe.out, hbf⟩

/-- The path of m, as it is told; nothing, if there is none. -/
def pathZ (l : Hs) (m : Int) : Hs × Bool := if 0 ≤ m ∧ m < (l.length : Int) then (Tree.path l m.toNat, true) else ([], false)
theorem pathZ_t (l : Hs) (m : Nat) (h : m < l.length) : pathZ l (m : Int) = (Tree.path l m, true) := if_pos ⟨by omega, by omega⟩
theorem pathZ_f (l : Hs) (m : Int) (h : ¬ (0 ≤ m ∧ m < (l.length : Int))) : pathZ l m = ([], false) := if_neg h
set_option maxHeartbeats 1600000 in
set_option maxRecDepth 100000 in
theorem path_any (v : Value) (l : Hs) (m : Int) (w : World) (hv : Sums w v l) (hn : l.length ≤ 100000) (hK : KT w) :
    Calls Tryd.prog 11 #[v, .int .i64 m] w fun e w' => ∃ v', e = .returned (.tuple #[v', .bool (pathZ l m).2]) ∧ OwnS w.heap.size w' v' (pathZ l m).1 ∧ Below w.heap.size w w' := by
  obtain ⟨va, cap, rfl, hlc, hcap⟩ := hv.slice
  by_cases h : 0 ≤ m ∧ m < (l.length : Int)
  · obtain ⟨k, rfl⟩ := Int.eq_ofNat_of_zero_le h.1
    have hk : k < l.length := by omega
    rw [pathZ_t l k hk]
    obtain ⟨B, hB⟩ : ∃ B, B = w.heap.size := ⟨_, rfl⟩
    have hvB := hv.below
    rw [← hB] at hvB ⊢
    have hmf : ∀ (fn : Fn) (first cap : Array Value) (w : World), (Instr.makeFunc fn first cap).run Tryd.prog w = .ok (.func fn first cap) w := fun _ _ _ _ => rfl
    have h0 := h.1
    have h1 : ¬ (l.length : Int) ≤ (k : Int) := by omega
    have HV := Lib.hid hvB
    have HB := Lib.hid hB
    clear hv h hvB hB
    obtain ⟨ci, hci⟩ : ∃ ci, ci = w.heap.size + 1 := ⟨_, rfl⟩
    obtain ⟨cp, hcp⟩ : ∃ cp, cp = w.heap.size := ⟨_, rfl⟩
    obtain ⟨W, hW⟩ : ∃ W, W = (w.alloc (.cells #[.slice none 0 0] 22)).alloc (.cells #[(.func (.func 26) #[] #[.pointer (some ⟨ci, 0, none⟩), .pointer (some ⟨cp, 0, none⟩)])] 41) := ⟨_, rfl⟩
    have hcpW : W.heap[cp]? = some (.cells #[.slice none 0 0] 22 (0, 0)) := by
      rw [hW, hcp]
      exact (((Below.refl (w.alloc (.cells #[.slice none 0 0] 22)).heap.size _).alloc (Nat.le_refl _) _).block w.heap.size (by simp)).trans (heap_alloc_last w _)
    have hciW : W.heap[ci]? = some (.cells #[(.func (.func 26) #[] #[.pointer (some ⟨ci, 0, none⟩), .pointer (some ⟨cp, 0, none⟩)])] 41 (0, 0)) := by
      have := heap_alloc_last (w.alloc (.cells #[.slice none 0 0] 22)) (.cells #[(.func (.func 26) #[] #[.pointer (some ⟨ci, 0, none⟩), .pointer (some ⟨cp, 0, none⟩)])] 41)
      rwa [World.size_alloc, ← hci, ← hW] at this
    have hic : IC B cp ci 41 (.func (.func 26) #[] #[.pointer (some ⟨ci, 0, none⟩), .pointer (some ⟨cp, 0, none⟩)]) [] W := ⟨⟨.slice none 0 0, hcpW, OwnS.nil _ _⟩, hciW, by rw [HB.out]; omega, by rw [HB.out]; omega, by omega⟩
    have hbW : Below B w W := by rw [hW, HB.out]; exact ((Below.refl _ _).alloc (Nat.le_refl _) _).alloc (by simp) _
    have hin := into_any B cp ci (by rw [HB.out]; exact hK.pos) l.length l k [] (.slice va l.length cap) W rfl (by simp; omega) hk (HV.out.keep hbW) hic (hK.oldB hbW (by rw [HB.out]; exact hK.pos))
    rw [List.nil_append] at hin
    have hcW : W.cell? ⟨ci, 0, none⟩ = some ((.func (.func 26) #[] #[.pointer (some ⟨ci, 0, none⟩), .pointer (some ⟨cp, 0, none⟩)])) := (cell_of hic.fn 0).trans rfl
    have HIN := Lib.hid hin
    have HBW := Lib.hid hbW
    have HW := Lib.hid hW
    have Hci := Lib.hid hci
    have Hcp := Lib.hid hcp
    clear hin hic hbW hciW hcpW hW hci hcp hk
    go_enter Tryd.func11, Tryd.ntmps11
    go_upto_region 6 with (fail)
    rw [← Hci.out, ← Hcp.out, ← HW.out]
    clear HW
    go_wp2_with (go_at_call 26; ((with_reducible refine HIN.out.mono ?_); rintro e w3 ⟨rfl, hI3, b3⟩; obtain ⟨v3, hv3, ho3⟩ := hI3.row; obtain ⟨a3, c3, rfl, -, -⟩ := ho3.sums.slice; have hc3 : w3.cell? ⟨cp, 0, none⟩ = some (.slice a3 (Tree.path l k).length c3) := (cell_of hv3 0).trans rfl; have HO3 := Lib.hid ho3; have b4 := HBW.out.trans b3; clear hI3 hv3 ho3))
    go_ret2
    exact ⟨_, rfl, HO3.out, b4⟩
  · rw [pathZ_f l m h]
    have hh : m < 0 ∨ (0 ≤ m ∧ (l.length : Int) ≤ m) := by omega
    clear hv h
    rcases hh with h | ⟨h, h1⟩ <;>
    · go_enter Tryd.func11, Tryd.ntmps11
      go_wp2
      go_ret2
      exact ⟨_, rfl, OwnS.nil _ _, Below.refl _ _⟩

end Go.Proofs.YtagocdcclghdaaaDoor
