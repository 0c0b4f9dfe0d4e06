/-
  The document's own path, Path, links, Links (scriniumref10).
-/
import Derived.Test.YtagocdcclghdaaaDoorPathInto
import Derived.Test.YtagocdcclghdaaaDoorPathLinks
import Derived.Test.YtagocdcclghdaaaDoorLeafAbove
namespace Go.Proofs.YtagocdcclghdaaaDoor
open Go.RowKit

theorem sub_iG (a b : Int) (h : IntKind.i64.wrap (a - b) = a - b) (w : World) : (binOp .sub 3 (.int .i64 a) (.int .i64 b)).run Tryd.prog w = .ok (.int .i64 (a - b)) w := by
  go_simp
theorem OwnS.lit {B : Nat} (w : World) (x : List UInt8) (h : x.length = 32) (hB : B ≤ w.heap.size) : OwnS B (w.alloc (.cells (x.map u8V).toArray 35)) (.slice (some ⟨w.heap.size, 0, none⟩) 1 1) [x] := by
  refine ⟨?_, all32.one h⟩
  have := World.ownsRow_lit (e := 35) (size := 32) w (x.map u8V).toArray 1 hB (by decide) (by simp [h])
  rw [sc_one']
  simpa using this
set_option maxHeartbeats 3200000 in
set_option maxRecDepth 100000 in
theorem rpath_any (n : Nat) : ∀ (l : Hs) (m : Nat) (v : Value) (w : World), l.length = n → n ≤ 100000 → m < l.length → Sums w v l →
    Calls Tryd.prog 29 #[v, .int .i64 (m : Int)] w fun e w' => ∃ v', e = .returned v' ∧ OwnS w.heap.size w' v' (Tree.path l m) ∧ Below w.heap.size w w' := by
  induction n using Nat.strongRecOn with
  | _ n ih =>
  intro l m v w hlen hP hm hv
  obtain ⟨va, cap, rfl, hlc, hcap⟩ := hv.slice
  by_cases h1 : l.length = 1
  · have hpe : Tree.path l m = [] := Tree.path_small (by omega)
    rw [hpe, h1]
    clear hpe hv ih h1 hm hlc
    go_enter Tryd.func29, Tryd.ntmps29
    go_wp2
    go_ret
    exact ⟨_, rfl, OwnS.nil _ _, Below.refl _ _⟩
  obtain ⟨k, hk⟩ : ∃ k, k = Tree.split l.length := ⟨_, rfl⟩
  have h2 : 2 ≤ l.length := by omega
  have hlt := Tree.split_lt h2
  have hps := Tree.split_pos h2
  have hsp := fun u => rleafSplit_any (l.length : Int) (by omega) (by omega) u
  rw [← hk] at hlt hps
  rw [Int.toNat_natCast, ← hk] at hsp
  have sh := hv.head k (by omega)
  have st := hv.tail k (by omega)
  have l1 : (l.take k).length = k := by rw [List.length_take]; omega
  have l2 : (l.drop k).length = l.length - k := List.length_drop
  have ho : all32 l := hv.ok
  have hpl : m < k → Tree.path l m = Tree.path (l.take k) m ++ [Tree.root (l.drop k)] := fun h => by rw [Tree.path_left h2 (by omega), hk]
  have hpr : ¬ m < k → Tree.path l m = Tree.path (l.drop k) (m - k) ++ [Tree.root (l.take k)] := fun h => by rw [Tree.path_right h2 (by omega), hk]
  have hpn : ∀ (l' : Hs) (m' : Nat), (Tree.path l' m').length ≤ l'.length := fun l' m' => by
    rw [Tree.path_length _ _ _ (Nat.le_refl _)]
    exact Tree.long_le _ _ _ (Nat.le_of_lt Nat.lt_two_pow_self)
  rw [hlen] at hsp st hlc hlt hm l2 h2 ⊢
  have h1' : ¬ (n : Int) = 1 := by omega
  have HSP : Hid (∀ u : World, Calls Tryd.prog 24 #[.int .i64 (n : Int)] u fun e w' => e = .returned (.int .i64 (k : Int)) ∧ u = w') := Lib.hid hsp
  have HSH := Lib.hid sh
  have HST := Lib.hid st
  have hkc : k ≤ cap := by omega
  have hkn : k ≤ n := by omega
  by_cases hmk : m < k
  · have hmk' : (m : Int) < (k : Int) := by omega
    obtain ⟨D, hD⟩ : ∃ D, D = Tree.root (l.drop k) := ⟨_, rfl⟩
    have HDl : Hid (D.length = 32) := Lib.hid (by rw [hD]; exact Tree.root_length _ (ho.drop k))
    obtain ⟨P1, hP1⟩ : ∃ P1, P1 = Tree.path (l.take k) m := ⟨_, rfl⟩
    have hres : Tree.path l m = P1 ++ [D] := by rw [hpl hmk, hP1, hD]
    have HPl : Hid (P1.length ≤ 1000000) := Lib.hid (by rw [hP1]; have := hpn (l.take k) m; omega)
    have HRES := Lib.hid hres
    have hsub := True.intro
    have HIH : Hid (∀ u : World, Below w.heap.size w u → Calls Tryd.prog 29 #[.slice va k cap, .int .i64 (m : Int)] u fun e w' => ∃ v', e = .returned v' ∧ OwnS u.heap.size w' v' P1 ∧ Below u.heap.size u w') := Lib.hid fun u hu => by
      rw [hP1]
      exact ih k hlt (l.take k) m _ u l1 (by omega) (by omega) (HSH.out.old hu)
    have HRt : Hid (∀ u : World, Below w.heap.size w u → Calls Tryd.prog 23 #[.slice (cutS va k cap) (n - k) (cap - k)] u fun e w' => e = .returned (sumV D) ∧ Below u.heap.size u w') := Lib.hid fun u hu => by
      rw [hD]
      exact rleafRoot_any _ (l.drop k) _ u rfl (by omega) (HST.out.old hu)
    clear sh st ho hD hP1 hres hpl hpr hpn ih l1 l2 hk hlen h1 hv hP hsp
    go_enter Tryd.func29, Tryd.ntmps29
    go_upto_region 5 with (go_at_call 24; ((with_reducible refine (HSP.out _).mono ?_); rintro e w1 ⟨rfl, rfl⟩))
    obtain ⟨W, hW⟩ : ∃ W, W = w := ⟨_, rfl⟩
    subst hW
    try simp only [Act.put]
    refine wp_region_ph (Lx := GLx 4) [RXP.is (.slice va n cap), RXP.is (.int .i64 (k : Int)), RXP.is (.slice va k cap), RXP.is (.int .i64 (m : Int)), RXP.till (fun v w => OwnS W.heap.size w v P1) (fun _ _ _ h k => h.kept k), RXP.is (.slice va n cap), RXP.is (.int .i64 (k : Int)), RXP.is (.slice (cutS va k cap) (n - k) (cap - k)), RXP.is (sumV D), RXP.till (fun v w => Sums w v [D]) (fun _ _ _ h k => h.old k), RXP.behind (fun v w => OwnS W.heap.size w v (P1 ++ [D])), RXP.behind (fun v w => OwnS W.heap.size w v (P1 ++ [D]))] [4, 8, 9, 10] (fun k w' => (k < 4 → Below W.heap.size W w') ∧ (k = 4 → Below W.heap.size W w')) (by kernel_rfl) (by kernel_rfl) (by kernel_rfl) (by kernel_rfl) (by kernel_rfl) (⟨fun _ => below_drew (Below.refl _ _), fun h => absurd h (by decide)⟩) ⟨?_, ?_, ?_, ?_, ?_, ?_, ?_, ?_, ?_, ?_, ?_, ?_, trivial⟩ ?_
    · intro ac w' ph hF hPh hlt hP hU K hK0
      have e0 : ac.eval (.tmp 0) = .slice va n cap := hF.at 0 (by kernel_rfl)
      exact rop_move _ rfl e0 (wanted_none rfl) (hK0 _ _ GLx.same hPh rfl)
    · intro ac w' ph hF hPh hlt hP hU K hK0
      have e5 : ac.eval (.tmp 5) = .int .i64 (k : Int) := hF.at 5 (by kernel_rfl)
      exact rop_move _ rfl e5 (wanted_none rfl) (hK0 _ _ GLx.same hPh rfl)
    · intro ac w' ph hF hPh hlt hP hU K hK0
      have e15 : ac.eval (.tmp 15) = .slice va n cap := hP 0 (by kernel_rfl)
      have e16 : ac.eval (.tmp 16) = .int .i64 (k : Int) := hP 1 (by kernel_rfl)
      exact rop_sliceG _ _ _ _ _ rfl e15 rfl (by simp [e16]) rfl (scut_h va n cap k hkc w') (wanted_none rfl) (hK0 _ _ GLx.same hPh rfl)
    · intro ac w' ph hF hPh hlt hP hU K hK0
      have e1 : ac.eval (.tmp 1) = .int .i64 (m : Int) := hF.at 1 (by kernel_rfl)
      exact rop_move _ rfl e1 (wanted_none rfl) (hK0 _ _ GLx.same hPh rfl)
    · intro ac w' ph hF hPh hlt hP hU K hK0
      obtain rfl : ph = 0 := (hlt 0 4 rfl).1 rfl
      have e17 : ac.eval (.tmp 17) = .slice va k cap := hP 2 (by kernel_rfl)
      have e18 : ac.eval (.tmp 18) = .int .i64 (m : Int) := hP 3 (by kernel_rfl)
      have hB : Below W.heap.size W w' := hPh.1 (by decide)
      refine rop_call 29 _ _ rfl #[.slice va k cap, .int .i64 (m : Int)] (by simp [e17, e18]) (by kernel_rfl) (wanted_none rfl) ?_
      refine (HIH.out w' hB).mono ?_
      rintro e w2 ⟨v2, rfl, ho2, hb⟩
      exact ⟨_, rfl, hK0 _ _ (GLx.old (by decide) hb) ⟨fun _ => below_step hB (Nat.le_refl _) hb, fun h => absurd h (by decide)⟩ (fun _ => ho2.lower hB.size)⟩
    · intro ac w' ph hF hPh hlt hP hU K hK0
      have e0 : ac.eval (.tmp 0) = .slice va n cap := hF.at 0 (by kernel_rfl)
      exact rop_move _ rfl e0 (wanted_none rfl) (hK0 _ _ GLx.same hPh rfl)
    · intro ac w' ph hF hPh hlt hP hU K hK0
      have e5 : ac.eval (.tmp 5) = .int .i64 (k : Int) := hF.at 5 (by kernel_rfl)
      exact rop_move _ rfl e5 (wanted_none rfl) (hK0 _ _ GLx.same hPh rfl)
    · intro ac w' ph hF hPh hlt hP hU K hK0
      have e20 : ac.eval (.tmp 20) = .slice va n cap := hP 5 (by kernel_rfl)
      have e21 : ac.eval (.tmp 21) = .int .i64 (k : Int) := hP 6 (by kernel_rfl)
      exact rop_sliceG _ _ _ _ _ rfl e20 (by simp [e21]) rfl rfl (scut_l va n cap k hkn w') (wanted_none rfl) (hK0 _ _ GLx.same hPh rfl)
    · intro ac w' ph hF hPh hlt hP hU K hK0
      obtain rfl : ph = 1 := (hlt 1 8 rfl).1 rfl
      have e22 : ac.eval (.tmp 22) = .slice (cutS va k cap) (n - k) (cap - k) := hP 7 (by kernel_rfl)
      have hB : Below W.heap.size W w' := hPh.1 (by decide)
      refine rop_call 23 _ _ rfl #[.slice (cutS va k cap) (n - k) (cap - k)] (by simp [e22]) (by kernel_rfl) (wanted_none rfl) ?_
      refine (HRt.out w' hB).mono ?_
      rintro e w2 ⟨rfl, hb⟩
      exact ⟨_, rfl, hK0 _ _ (GLx.old (by decide) hb) ⟨fun _ => below_step hB (Nat.le_refl _) hb, fun h => absurd h (by decide)⟩ rfl⟩
    · intro ac w' ph hF hPh hlt hP hU K hK0
      obtain rfl : ph = 2 := (hlt 2 9 rfl).1 rfl
      have e23 : ac.eval (.tmp 23) = sumV D := hP 8 (by kernel_rfl)
      have hB : Below W.heap.size W w' := hPh.1 (by decide)
      exact rop_bslG _ _ _ rfl #[(0, sumV D)] (by simp [e23]) (build_sum1 D HDl.out w') (wanted_none rfl) (hK0 _ _ (GLx.old (by decide) ((Below.refl _ _).alloc (Nat.le_refl _) _)) ⟨fun _ => below_step hB (Nat.le_refl _) ((Below.refl w'.heap.size w').alloc (Nat.le_refl _) (.cells (D.map u8V).toArray 35)), fun h => absurd h (by decide)⟩ (fun _ => Sums.one w' D HDl.out))
    · intro ac w' ph hF hPh hlt hP hU K hK0
      obtain rfl : ph = 3 := (hlt 3 10 rfl).1 rfl
      have e19 : 3 < 4 → OwnS W.heap.size w' (ac.eval (.tmp 19)) P1 := hP 4 (by kernel_rfl)
      have e24 : 3 < 4 → Sums w' (ac.eval (.tmp 24)) [D] := hP 9 (by kernel_rfl)
      have hB : Below W.heap.size W w' := hPh.1 (by decide)
      obtain ⟨v6, w6, hr6, ho6, b6⟩ := sappend_own (B := W.heap.size) 22 (e19 (by decide)) (e24 (by decide)) hB.size (by have := HPl.out; simp; omega)
      exact rop_appendG _ _ _ rfl rfl rfl hr6 (wanted_none rfl) (hK0 _ _ (GLx.last rfl) ⟨fun h => absurd h (by decide), fun _ => hB.trans b6⟩ ⟨rfl, ho6⟩)
    · intro ac w' ph hF hPh hlt hP hU K hK0
      have e25 : ph = 4 ∧ OwnS W.heap.size w' (ac.eval (.tmp 25)) (P1 ++ [D]) := hP 10 (by kernel_rfl)
      exact rop_assign _ rfl rfl (wanted_none rfl) (hK0 _ _ GLx.same hPh e25)
    · intro ac w' hF hPh hT
      have e4 : 4 = 4 ∧ OwnS W.heap.size w' (ac.eval (.tmp 4)) (P1 ++ [D]) := hT 11 (by decide)
      rw [hF.setsG [15, 16, 17, 18, 19, 20, 21, 22, 23, 24, 25, 4] (by kernel_rfl)]
      simp only [List.foldl_cons, List.foldl_nil, List.setIfInBounds_toArray, List.set_cons_succ, List.set_cons_zero]
      generalize ac.eval (.tmp 15) = u15
      generalize ac.eval (.tmp 16) = u16
      generalize ac.eval (.tmp 17) = u17
      generalize ac.eval (.tmp 18) = u18
      generalize ac.eval (.tmp 19) = u19
      generalize ac.eval (.tmp 20) = u20
      generalize ac.eval (.tmp 21) = u21
      generalize ac.eval (.tmp 22) = u22
      generalize ac.eval (.tmp 23) = u23
      generalize ac.eval (.tmp 24) = u24
      generalize ac.eval (.tmp 25) = u25
      generalize ac.eval (.tmp 4) = v4 at e4 ⊢
      clear  hT hF ac
      replace e4 := e4.2
      have hfin := hPh.2 rfl
      go_wp2
      go_ret
      exact ⟨_, rfl, by rw [HRES.out]; exact e4, hfin⟩
  · have hmk' : ¬ (m : Int) < (k : Int) := by omega
    obtain ⟨D, hD⟩ : ∃ D, D = Tree.root (l.take k) := ⟨_, rfl⟩
    have HDl : Hid (D.length = 32) := Lib.hid (by rw [hD]; exact Tree.root_length _ (ho.take k))
    obtain ⟨P1, hP1⟩ : ∃ P1, P1 = Tree.path (l.drop k) (m - k) := ⟨_, rfl⟩
    have hres : Tree.path l m = P1 ++ [D] := by rw [hpr hmk, hP1, hD]
    have HPl : Hid (P1.length ≤ 1000000) := Lib.hid (by rw [hP1]; have := hpn (l.drop k) (m - k); omega)
    have HRES := Lib.hid hres
    have hsub := IntWalk.i64_in ((m : Int) - (k : Int)) (by omega)
    have HIH : Hid (∀ u : World, Below w.heap.size w u → Calls Tryd.prog 29 #[.slice (cutS va k cap) (n - k) (cap - k), .int .i64 ((m : Int) - (k : Int))] u fun e w' => ∃ v', e = .returned v' ∧ OwnS u.heap.size w' v' P1 ∧ Below u.heap.size u w') := Lib.hid fun u hu => by
      rw [hP1]
      exact by
        rw [← Int.ofNat_sub (by omega)]
        exact ih (n - k) (by omega) (l.drop k) (m - k) _ u l2 (by omega) (by omega) (HST.out.old hu)
    have HRt : Hid (∀ u : World, Below w.heap.size w u → Calls Tryd.prog 23 #[.slice va k cap] u fun e w' => e = .returned (sumV D) ∧ Below u.heap.size u w') := Lib.hid fun u hu => by
      rw [hD]
      exact rleafRoot_any _ (l.take k) _ u rfl (by omega) (HSH.out.old hu)
    clear sh st ho hD hP1 hres hpl hpr hpn ih l1 l2 hk hlen h1 hv hP hsp
    go_enter Tryd.func29, Tryd.ntmps29
    go_upto_region 6 with (go_at_call 24; ((with_reducible refine (HSP.out _).mono ?_); rintro e w1 ⟨rfl, rfl⟩))
    obtain ⟨W, hW⟩ : ∃ W, W = w := ⟨_, rfl⟩
    subst hW
    try simp only [Act.put]
    refine wp_region_ph (Lx := GLx 4) [RXP.is (.slice va n cap), RXP.is (.int .i64 (k : Int)), RXP.is (.slice (cutS va k cap) (n - k) (cap - k)), RXP.is (.int .i64 (m : Int)), RXP.is (.int .i64 (k : Int)), RXP.is (.int .i64 ((m : Int) - (k : Int))), RXP.till (fun v w => OwnS W.heap.size w v P1) (fun _ _ _ h k => h.kept k), RXP.is (.slice va n cap), RXP.is (.int .i64 (k : Int)), RXP.is (.slice va k cap), RXP.is (sumV D), RXP.till (fun v w => Sums w v [D]) (fun _ _ _ h k => h.old k), RXP.behind (fun v w => OwnS W.heap.size w v (P1 ++ [D])), RXP.behind (fun v w => OwnS W.heap.size w v (P1 ++ [D]))] [6, 10, 11, 12] (fun k w' => (k < 4 → Below W.heap.size W w') ∧ (k = 4 → Below W.heap.size W w')) (by kernel_rfl) (by kernel_rfl) (by kernel_rfl) (by kernel_rfl) (by kernel_rfl) (⟨fun _ => below_drew (Below.refl _ _), fun h => absurd h (by decide)⟩) ⟨?_, ?_, ?_, ?_, ?_, ?_, ?_, ?_, ?_, ?_, ?_, ?_, ?_, ?_, trivial⟩ ?_
    · intro ac w' ph hF hPh hlt hP hU K hK0
      have e0 : ac.eval (.tmp 0) = .slice va n cap := hF.at 0 (by kernel_rfl)
      exact rop_move _ rfl e0 (wanted_none rfl) (hK0 _ _ GLx.same hPh rfl)
    · intro ac w' ph hF hPh hlt hP hU K hK0
      have e5 : ac.eval (.tmp 5) = .int .i64 (k : Int) := hF.at 5 (by kernel_rfl)
      exact rop_move _ rfl e5 (wanted_none rfl) (hK0 _ _ GLx.same hPh rfl)
    · intro ac w' ph hF hPh hlt hP hU K hK0
      have e26 : ac.eval (.tmp 26) = .slice va n cap := hP 0 (by kernel_rfl)
      have e27 : ac.eval (.tmp 27) = .int .i64 (k : Int) := hP 1 (by kernel_rfl)
      exact rop_sliceG _ _ _ _ _ rfl e26 (by simp [e27]) rfl rfl (scut_l va n cap k hkn w') (wanted_none rfl) (hK0 _ _ GLx.same hPh rfl)
    · intro ac w' ph hF hPh hlt hP hU K hK0
      have e1 : ac.eval (.tmp 1) = .int .i64 (m : Int) := hF.at 1 (by kernel_rfl)
      exact rop_move _ rfl e1 (wanted_none rfl) (hK0 _ _ GLx.same hPh rfl)
    · intro ac w' ph hF hPh hlt hP hU K hK0
      have e5 : ac.eval (.tmp 5) = .int .i64 (k : Int) := hF.at 5 (by kernel_rfl)
      exact rop_move _ rfl e5 (wanted_none rfl) (hK0 _ _ GLx.same hPh rfl)
    · intro ac w' ph hF hPh hlt hP hU K hK0
      have e29 : ac.eval (.tmp 29) = .int .i64 (m : Int) := hP 3 (by kernel_rfl)
      have e30 : ac.eval (.tmp 30) = .int .i64 (k : Int) := hP 4 (by kernel_rfl)
      exact rop_bin _ _ _ _ _ rfl e29 e30 (guard_int _ _ _ _ _ _ _ w') (sub_iG _ _ hsub w') (wanted_none rfl) (hK0 _ _ GLx.same hPh rfl)
    · intro ac w' ph hF hPh hlt hP hU K hK0
      obtain rfl : ph = 0 := (hlt 0 6 rfl).1 rfl
      have e28 : ac.eval (.tmp 28) = .slice (cutS va k cap) (n - k) (cap - k) := hP 2 (by kernel_rfl)
      have e31 : ac.eval (.tmp 31) = .int .i64 ((m : Int) - (k : Int)) := hP 5 (by kernel_rfl)
      have hB : Below W.heap.size W w' := hPh.1 (by decide)
      refine rop_call 29 _ _ rfl #[.slice (cutS va k cap) (n - k) (cap - k), .int .i64 ((m : Int) - (k : Int))] (by simp [e28, e31]) (by kernel_rfl) (wanted_none rfl) ?_
      refine (HIH.out w' hB).mono ?_
      rintro e w2 ⟨v2, rfl, ho2, hb⟩
      exact ⟨_, rfl, hK0 _ _ (GLx.old (by decide) hb) ⟨fun _ => below_step hB (Nat.le_refl _) hb, fun h => absurd h (by decide)⟩ (fun _ => ho2.lower hB.size)⟩
    · intro ac w' ph hF hPh hlt hP hU K hK0
      have e0 : ac.eval (.tmp 0) = .slice va n cap := hF.at 0 (by kernel_rfl)
      exact rop_move _ rfl e0 (wanted_none rfl) (hK0 _ _ GLx.same hPh rfl)
    · intro ac w' ph hF hPh hlt hP hU K hK0
      have e5 : ac.eval (.tmp 5) = .int .i64 (k : Int) := hF.at 5 (by kernel_rfl)
      exact rop_move _ rfl e5 (wanted_none rfl) (hK0 _ _ GLx.same hPh rfl)
    · intro ac w' ph hF hPh hlt hP hU K hK0
      have e33 : ac.eval (.tmp 33) = .slice va n cap := hP 7 (by kernel_rfl)
      have e34 : ac.eval (.tmp 34) = .int .i64 (k : Int) := hP 8 (by kernel_rfl)
      exact rop_sliceG _ _ _ _ _ rfl e33 rfl (by simp [e34]) rfl (scut_h va n cap k hkc w') (wanted_none rfl) (hK0 _ _ GLx.same hPh rfl)
    · intro ac w' ph hF hPh hlt hP hU K hK0
      obtain rfl : ph = 1 := (hlt 1 10 rfl).1 rfl
      have e35 : ac.eval (.tmp 35) = .slice va k cap := hP 9 (by kernel_rfl)
      have hB : Below W.heap.size W w' := hPh.1 (by decide)
      refine rop_call 23 _ _ rfl #[.slice va k cap] (by simp [e35]) (by kernel_rfl) (wanted_none rfl) ?_
      refine (HRt.out w' hB).mono ?_
      rintro e w2 ⟨rfl, hb⟩
      exact ⟨_, rfl, hK0 _ _ (GLx.old (by decide) hb) ⟨fun _ => below_step hB (Nat.le_refl _) hb, fun h => absurd h (by decide)⟩ rfl⟩
    · intro ac w' ph hF hPh hlt hP hU K hK0
      obtain rfl : ph = 2 := (hlt 2 11 rfl).1 rfl
      have e36 : ac.eval (.tmp 36) = sumV D := hP 10 (by kernel_rfl)
      have hB : Below W.heap.size W w' := hPh.1 (by decide)
      exact rop_bslG _ _ _ rfl #[(0, sumV D)] (by simp [e36]) (build_sum1 D HDl.out w') (wanted_none rfl) (hK0 _ _ (GLx.old (by decide) ((Below.refl _ _).alloc (Nat.le_refl _) _)) ⟨fun _ => below_step hB (Nat.le_refl _) ((Below.refl w'.heap.size w').alloc (Nat.le_refl _) (.cells (D.map u8V).toArray 35)), fun h => absurd h (by decide)⟩ (fun _ => Sums.one w' D HDl.out))
    · intro ac w' ph hF hPh hlt hP hU K hK0
      obtain rfl : ph = 3 := (hlt 3 12 rfl).1 rfl
      have e32 : 3 < 4 → OwnS W.heap.size w' (ac.eval (.tmp 32)) P1 := hP 6 (by kernel_rfl)
      have e37 : 3 < 4 → Sums w' (ac.eval (.tmp 37)) [D] := hP 11 (by kernel_rfl)
      have hB : Below W.heap.size W w' := hPh.1 (by decide)
      obtain ⟨v6, w6, hr6, ho6, b6⟩ := sappend_own (B := W.heap.size) 22 (e32 (by decide)) (e37 (by decide)) hB.size (by have := HPl.out; simp; omega)
      exact rop_appendG _ _ _ rfl rfl rfl hr6 (wanted_none rfl) (hK0 _ _ (GLx.last rfl) ⟨fun h => absurd h (by decide), fun _ => hB.trans b6⟩ ⟨rfl, ho6⟩)
    · intro ac w' ph hF hPh hlt hP hU K hK0
      have e38 : ph = 4 ∧ OwnS W.heap.size w' (ac.eval (.tmp 38)) (P1 ++ [D]) := hP 12 (by kernel_rfl)
      exact rop_assign _ rfl rfl (wanted_none rfl) (hK0 _ _ GLx.same hPh e38)
    · intro ac w' hF hPh hT
      have e4 : 4 = 4 ∧ OwnS W.heap.size w' (ac.eval (.tmp 4)) (P1 ++ [D]) := hT 13 (by decide)
      rw [hF.setsG [26, 27, 28, 29, 30, 31, 32, 33, 34, 35, 36, 37, 38, 4] (by kernel_rfl)]
      simp only [List.foldl_cons, List.foldl_nil, List.setIfInBounds_toArray, List.set_cons_succ, List.set_cons_zero]
      generalize ac.eval (.tmp 26) = u26
      generalize ac.eval (.tmp 27) = u27
      generalize ac.eval (.tmp 28) = u28
      generalize ac.eval (.tmp 29) = u29
      generalize ac.eval (.tmp 30) = u30
      generalize ac.eval (.tmp 31) = u31
      generalize ac.eval (.tmp 32) = u32
      generalize ac.eval (.tmp 33) = u33
      generalize ac.eval (.tmp 34) = u34
      generalize ac.eval (.tmp 35) = u35
      generalize ac.eval (.tmp 36) = u36
      generalize ac.eval (.tmp 37) = u37
      generalize ac.eval (.tmp 38) = u38
      generalize ac.eval (.tmp 4) = v4 at e4 ⊢
      clear  hT hF ac
      replace e4 := e4.2
      have hfin := hPh.2 rfl
      go_wp2
      go_ret
      exact ⟨_, rfl, by rw [HRES.out]; exact e4, hfin⟩
set_option maxHeartbeats 3200000 in
set_option maxRecDepth 100000 in
theorem rlinks_any (n : Nat) : ∀ (l : Hs) (m : Nat) (b : Bool) (v : Value) (w : World), l.length = n → n ≤ 100000 → 1 ≤ m → m ≤ l.length → Sums w v l →
    Calls Tryd.prog 31 #[v, .int .i64 (m : Int), .bool b] w fun e w' => ∃ v', e = .returned v' ∧ OwnS w.heap.size w' v' (Tree.links l m b) ∧ Below w.heap.size w w' := by
  induction n using Nat.strongRecOn with
  | _ n ih =>
  intro l m b v w hlen hP h1m hm hv
  obtain ⟨va, cap, rfl, hlc, hcap⟩ := hv.slice
  have ho : all32 l := hv.ok
  by_cases h1 : m = l.length
  · have hle : Tree.links l m b = if b then [] else [Tree.root l] := by rw [h1]; exact Tree.links_end (by omega)
    rw [hle]
    have h1' : m = n := by omega
    rw [hlen] at hlc ⊢
    rw [h1'] at ⊢
    cases b with
    | true =>
      rw [if_pos rfl]
      clear hv ih h1 hm hlc hle h1' h1m
      go_enter Tryd.func31, Tryd.ntmps31
      go_wp2
      go_ret
      exact ⟨_, rfl, OwnS.nil _ _, Below.refl _ _⟩
    | false =>
      have hff : (if (false : Bool) = true then [] else [Tree.root l]) = [Tree.root l] := rfl
      rw [hff]
      obtain ⟨D, hD⟩ : ∃ D, D = Tree.root l := ⟨_, rfl⟩
      rw [← hD]
      have HDl : Hid (D.length = 32) := Lib.hid (by rw [hD]; exact Tree.root_length _ ho)
      have HRt : Hid (Calls Tryd.prog 23 #[.slice va n cap] w fun e w' => e = .returned (.agg (D.map u8V).toArray) ∧ Below w.heap.size w w') := Lib.hid (by
        show Calls _ _ _ _ fun e w' => e = .returned (sumV D) ∧ _
        rw [hD]
        have := rleafRoot_any _ l _ w rfl (by omega) hv
        rwa [hlen] at this)
      have hfold := fold_zero D HDl.out
      have hD32 := HDl.out
      clear hv ih h1 hm hlc hle h1' hff hD ho hlen h1m hP
      go_enter Tryd.func31, Tryd.ntmps31
      go_wp2_with (first
        | (go_at_call 23; ((with_reducible refine HRt.out.mono ?_); rintro e w1 ⟨rfl, b1⟩))
        | (refine wpList_bslS rfl 22 1 #[(0, .tmp 14)] rfl (L := #[(0, .agg (D.map u8V).toArray)]) rfl (build_sum1 D HDl.out w1) ?_))
      go_ret
      exact ⟨_, rfl, OwnS.lit w1 D HDl.out b1.size, below_step b1 (Nat.le_refl _) ((Below.refl _ _).alloc (Nat.le_refl _) _)⟩
  obtain ⟨k, hk⟩ : ∃ k, k = Tree.split l.length := ⟨_, rfl⟩
  have h2 : 2 ≤ l.length := by omega
  have hlt := Tree.split_lt h2
  have hps := Tree.split_pos h2
  have hsp := fun u => rleafSplit_any (l.length : Int) (by omega) (by omega) u
  rw [← hk] at hlt hps
  rw [Int.toNat_natCast, ← hk] at hsp
  have sh := hv.head k (by omega)
  have st := hv.tail k (by omega)
  have l1 : (l.take k).length = k := by rw [List.length_take]; omega
  have l2 : (l.drop k).length = l.length - k := List.length_drop
  have hpl : m ≤ k → Tree.links l m b = Tree.links (l.take k) m b ++ [Tree.root (l.drop k)] := fun h => by rw [Tree.links_left h1m (by omega) (by omega), hk]
  have hpr : ¬ m ≤ k → Tree.links l m b = Tree.links (l.drop k) (m - k) false ++ [Tree.root (l.take k)] := fun h => by rw [Tree.links_right (by omega) (by omega), hk]
  have hpn : ∀ (l' : Hs) (m' : Nat) (b' : Bool), 1 ≤ m' → m' ≤ l'.length → (Tree.links l' m' b').length ≤ l'.length := fun l' m' b' x y => by
    rw [Tree.links_length _ _ _ _ x y (Nat.le_refl _)]
    exact Tree.llong_le _ _ _ _ x y (Nat.le_refl _)
  rw [hlen] at hsp st hlc hlt hm l2 h2 h1 ⊢
  have h1' : ¬ (m : Int) = (n : Int) := by omega
  have HSP : Hid (∀ u : World, Calls Tryd.prog 24 #[.int .i64 (n : Int)] u fun e w' => e = .returned (.int .i64 (k : Int)) ∧ u = w') := Lib.hid hsp
  have HSH := Lib.hid sh
  have HST := Lib.hid st
  have hkc : k ≤ cap := by omega
  have hkn : k ≤ n := by omega
  by_cases hmk : m ≤ k
  · have hmk' : (m : Int) ≤ (k : Int) := by omega
    obtain ⟨D, hD⟩ : ∃ D, D = Tree.root (l.drop k) := ⟨_, rfl⟩
    have HDl : Hid (D.length = 32) := Lib.hid (by rw [hD]; exact Tree.root_length _ (ho.drop k))
    obtain ⟨P1, hP1⟩ : ∃ P1, P1 = Tree.links (l.take k) m b := ⟨_, rfl⟩
    have hres : Tree.links l m b = P1 ++ [D] := by rw [hpl hmk, hP1, hD]
    have HPl : Hid (P1.length ≤ 1000000) := Lib.hid (by rw [hP1]; have := hpn (l.take k) m b h1m (by omega); omega)
    have HRES := Lib.hid hres
    have hsub := True.intro
    have HIH : Hid (∀ u : World, Below w.heap.size w u → Calls Tryd.prog 31 #[.slice va k cap, .int .i64 (m : Int), .bool b] u fun e w' => ∃ v', e = .returned v' ∧ OwnS u.heap.size w' v' P1 ∧ Below u.heap.size u w') := Lib.hid fun u hu => by
      rw [hP1]
      exact ih k hlt (l.take k) m b _ u l1 (by omega) h1m (by omega) (HSH.out.old hu)
    have HRt : Hid (∀ u : World, Below w.heap.size w u → Calls Tryd.prog 23 #[.slice (cutS va k cap) (n - k) (cap - k)] u fun e w' => e = .returned (sumV D) ∧ Below u.heap.size u w') := Lib.hid fun u hu => by
      rw [hD]
      exact rleafRoot_any _ (l.drop k) _ u rfl (by omega) (HST.out.old hu)
    clear sh st ho hD hP1 hres hpl hpr hpn ih l1 l2 hk hlen h1 hv hP hsp
    go_enter Tryd.func31, Tryd.ntmps31
    go_upto_region 7 with (go_at_call 24; ((with_reducible refine (HSP.out _).mono ?_); rintro e w1 ⟨rfl, rfl⟩))
    obtain ⟨W, hW⟩ : ∃ W, W = w := ⟨_, rfl⟩
    subst hW
    try simp only [Act.put]
    refine wp_region_ph (Lx := GLx 4) [RXP.is (.slice va n cap), RXP.is (.int .i64 (k : Int)), RXP.is (.slice va k cap), RXP.is (.int .i64 (m : Int)), RXP.is (.bool b), RXP.till (fun v w => OwnS W.heap.size w v P1) (fun _ _ _ h k => h.kept k), RXP.is (.slice va n cap), RXP.is (.int .i64 (k : Int)), RXP.is (.slice (cutS va k cap) (n - k) (cap - k)), RXP.is (sumV D), RXP.till (fun v w => Sums w v [D]) (fun _ _ _ h k => h.old k), RXP.behind (fun v w => OwnS W.heap.size w v (P1 ++ [D])), RXP.behind (fun v w => OwnS W.heap.size w v (P1 ++ [D]))] [5, 9, 10, 11] (fun k w' => (k < 4 → Below W.heap.size W w') ∧ (k = 4 → Below W.heap.size W w')) (by kernel_rfl) (by kernel_rfl) (by kernel_rfl) (by kernel_rfl) (by kernel_rfl) (⟨fun _ => below_drew (Below.refl _ _), fun h => absurd h (by decide)⟩) ⟨?_, ?_, ?_, ?_, ?_, ?_, ?_, ?_, ?_, ?_, ?_, ?_, ?_, trivial⟩ ?_
    · intro ac w' ph hF hPh hlt hP hU K hK0
      have e0 : ac.eval (.tmp 0) = .slice va n cap := hF.at 0 (by kernel_rfl)
      exact rop_move _ rfl e0 (wanted_none rfl) (hK0 _ _ GLx.same hPh rfl)
    · intro ac w' ph hF hPh hlt hP hU K hK0
      have e7 : ac.eval (.tmp 7) = .int .i64 (k : Int) := hF.at 7 (by kernel_rfl)
      exact rop_move _ rfl e7 (wanted_none rfl) (hK0 _ _ GLx.same hPh rfl)
    · intro ac w' ph hF hPh hlt hP hU K hK0
      have e22 : ac.eval (.tmp 22) = .slice va n cap := hP 0 (by kernel_rfl)
      have e23 : ac.eval (.tmp 23) = .int .i64 (k : Int) := hP 1 (by kernel_rfl)
      exact rop_sliceG _ _ _ _ _ rfl e22 rfl (by simp [e23]) rfl (scut_h va n cap k hkc w') (wanted_none rfl) (hK0 _ _ GLx.same hPh rfl)
    · intro ac w' ph hF hPh hlt hP hU K hK0
      have e1 : ac.eval (.tmp 1) = .int .i64 (m : Int) := hF.at 1 (by kernel_rfl)
      exact rop_move _ rfl e1 (wanted_none rfl) (hK0 _ _ GLx.same hPh rfl)
    · intro ac w' ph hF hPh hlt hP hU K hK0
      have e2 : ac.eval (.tmp 2) = .bool b := hF.at 2 (by kernel_rfl)
      exact rop_move _ rfl e2 (wanted_none rfl) (hK0 _ _ GLx.same hPh rfl)
    · intro ac w' ph hF hPh hlt hP hU K hK0
      obtain rfl : ph = 0 := (hlt 0 5 rfl).1 rfl
      have e24 : ac.eval (.tmp 24) = .slice va k cap := hP 2 (by kernel_rfl)
      have e25 : ac.eval (.tmp 25) = .int .i64 (m : Int) := hP 3 (by kernel_rfl)
      have e26 : ac.eval (.tmp 26) = .bool b := hP 4 (by kernel_rfl)
      have hB : Below W.heap.size W w' := hPh.1 (by decide)
      refine rop_call 31 _ _ rfl #[.slice va k cap, .int .i64 (m : Int), .bool b] (by simp [e24, e25, e26]) (by kernel_rfl) (wanted_none rfl) ?_
      refine (HIH.out w' hB).mono ?_
      rintro e w2 ⟨v2, rfl, ho2, hb⟩
      exact ⟨_, rfl, hK0 _ _ (GLx.old (by decide) hb) ⟨fun _ => below_step hB (Nat.le_refl _) hb, fun h => absurd h (by decide)⟩ (fun _ => ho2.lower hB.size)⟩
    · intro ac w' ph hF hPh hlt hP hU K hK0
      have e0 : ac.eval (.tmp 0) = .slice va n cap := hF.at 0 (by kernel_rfl)
      exact rop_move _ rfl e0 (wanted_none rfl) (hK0 _ _ GLx.same hPh rfl)
    · intro ac w' ph hF hPh hlt hP hU K hK0
      have e7 : ac.eval (.tmp 7) = .int .i64 (k : Int) := hF.at 7 (by kernel_rfl)
      exact rop_move _ rfl e7 (wanted_none rfl) (hK0 _ _ GLx.same hPh rfl)
    · intro ac w' ph hF hPh hlt hP hU K hK0
      have e28 : ac.eval (.tmp 28) = .slice va n cap := hP 6 (by kernel_rfl)
      have e29 : ac.eval (.tmp 29) = .int .i64 (k : Int) := hP 7 (by kernel_rfl)
      exact rop_sliceG _ _ _ _ _ rfl e28 (by simp [e29]) rfl rfl (scut_l va n cap k hkn w') (wanted_none rfl) (hK0 _ _ GLx.same hPh rfl)
    · intro ac w' ph hF hPh hlt hP hU K hK0
      obtain rfl : ph = 1 := (hlt 1 9 rfl).1 rfl
      have e30 : ac.eval (.tmp 30) = .slice (cutS va k cap) (n - k) (cap - k) := hP 8 (by kernel_rfl)
      have hB : Below W.heap.size W w' := hPh.1 (by decide)
      refine rop_call 23 _ _ rfl #[.slice (cutS va k cap) (n - k) (cap - k)] (by simp [e30]) (by kernel_rfl) (wanted_none rfl) ?_
      refine (HRt.out w' hB).mono ?_
      rintro e w2 ⟨rfl, hb⟩
      exact ⟨_, rfl, hK0 _ _ (GLx.old (by decide) hb) ⟨fun _ => below_step hB (Nat.le_refl _) hb, fun h => absurd h (by decide)⟩ rfl⟩
    · intro ac w' ph hF hPh hlt hP hU K hK0
      obtain rfl : ph = 2 := (hlt 2 10 rfl).1 rfl
      have e31 : ac.eval (.tmp 31) = sumV D := hP 9 (by kernel_rfl)
      have hB : Below W.heap.size W w' := hPh.1 (by decide)
      exact rop_bslG _ _ _ rfl #[(0, sumV D)] (by simp [e31]) (build_sum1 D HDl.out w') (wanted_none rfl) (hK0 _ _ (GLx.old (by decide) ((Below.refl _ _).alloc (Nat.le_refl _) _)) ⟨fun _ => below_step hB (Nat.le_refl _) ((Below.refl w'.heap.size w').alloc (Nat.le_refl _) (.cells (D.map u8V).toArray 35)), fun h => absurd h (by decide)⟩ (fun _ => Sums.one w' D HDl.out))
    · intro ac w' ph hF hPh hlt hP hU K hK0
      obtain rfl : ph = 3 := (hlt 3 11 rfl).1 rfl
      have e27 : 3 < 4 → OwnS W.heap.size w' (ac.eval (.tmp 27)) P1 := hP 5 (by kernel_rfl)
      have e32 : 3 < 4 → Sums w' (ac.eval (.tmp 32)) [D] := hP 10 (by kernel_rfl)
      have hB : Below W.heap.size W w' := hPh.1 (by decide)
      obtain ⟨v6, w6, hr6, ho6, b6⟩ := sappend_own (B := W.heap.size) 22 (e27 (by decide)) (e32 (by decide)) hB.size (by have := HPl.out; simp; omega)
      exact rop_appendG _ _ _ rfl rfl rfl hr6 (wanted_none rfl) (hK0 _ _ (GLx.last rfl) ⟨fun h => absurd h (by decide), fun _ => hB.trans b6⟩ ⟨rfl, ho6⟩)
    · intro ac w' ph hF hPh hlt hP hU K hK0
      have e33 : ph = 4 ∧ OwnS W.heap.size w' (ac.eval (.tmp 33)) (P1 ++ [D]) := hP 11 (by kernel_rfl)
      exact rop_assign _ rfl rfl (wanted_none rfl) (hK0 _ _ GLx.same hPh e33)
    · intro ac w' hF hPh hT
      have e6 : 4 = 4 ∧ OwnS W.heap.size w' (ac.eval (.tmp 6)) (P1 ++ [D]) := hT 12 (by decide)
      rw [hF.setsG [22, 23, 24, 25, 26, 27, 28, 29, 30, 31, 32, 33, 6] (by kernel_rfl)]
      simp only [List.foldl_cons, List.foldl_nil, List.setIfInBounds_toArray, List.set_cons_succ, List.set_cons_zero]
      generalize ac.eval (.tmp 22) = u22
      generalize ac.eval (.tmp 23) = u23
      generalize ac.eval (.tmp 24) = u24
      generalize ac.eval (.tmp 25) = u25
      generalize ac.eval (.tmp 26) = u26
      generalize ac.eval (.tmp 27) = u27
      generalize ac.eval (.tmp 28) = u28
      generalize ac.eval (.tmp 29) = u29
      generalize ac.eval (.tmp 30) = u30
      generalize ac.eval (.tmp 31) = u31
      generalize ac.eval (.tmp 32) = u32
      generalize ac.eval (.tmp 33) = u33
      generalize ac.eval (.tmp 6) = v6 at e6 ⊢
      clear  hT hF ac
      replace e6 := e6.2
      have hfin := hPh.2 rfl
      go_wp2
      go_ret
      exact ⟨_, rfl, by rw [HRES.out]; exact e6, hfin⟩
  · have hmk' : ¬ (m : Int) ≤ (k : Int) := by omega
    obtain ⟨D, hD⟩ : ∃ D, D = Tree.root (l.take k) := ⟨_, rfl⟩
    have HDl : Hid (D.length = 32) := Lib.hid (by rw [hD]; exact Tree.root_length _ (ho.take k))
    obtain ⟨P1, hP1⟩ : ∃ P1, P1 = Tree.links (l.drop k) (m - k) false := ⟨_, rfl⟩
    have hres : Tree.links l m b = P1 ++ [D] := by rw [hpr hmk, hP1, hD]
    have HPl : Hid (P1.length ≤ 1000000) := Lib.hid (by rw [hP1]; have := hpn (l.drop k) (m - k) false (by omega) (by omega); omega)
    have HRES := Lib.hid hres
    have hsub := IntWalk.i64_in ((m : Int) - (k : Int)) (by omega)
    have HIH : Hid (∀ u : World, Below w.heap.size w u → Calls Tryd.prog 31 #[.slice (cutS va k cap) (n - k) (cap - k), .int .i64 ((m : Int) - (k : Int)), .bool false] u fun e w' => ∃ v', e = .returned v' ∧ OwnS u.heap.size w' v' P1 ∧ Below u.heap.size u w') := Lib.hid fun u hu => by
      rw [hP1]
      exact by
        rw [← Int.ofNat_sub (by omega)]
        exact ih (n - k) (by omega) (l.drop k) (m - k) false _ u l2 (by omega) (by omega) (by omega) (HST.out.old hu)
    have HRt : Hid (∀ u : World, Below w.heap.size w u → Calls Tryd.prog 23 #[.slice va k cap] u fun e w' => e = .returned (sumV D) ∧ Below u.heap.size u w') := Lib.hid fun u hu => by
      rw [hD]
      exact rleafRoot_any _ (l.take k) _ u rfl (by omega) (HSH.out.old hu)
    clear sh st ho hD hP1 hres hpl hpr hpn ih l1 l2 hk hlen h1 hv hP hsp
    go_enter Tryd.func31, Tryd.ntmps31
    go_upto_region 8 with (go_at_call 24; ((with_reducible refine (HSP.out _).mono ?_); rintro e w1 ⟨rfl, rfl⟩))
    obtain ⟨W, hW⟩ : ∃ W, W = w := ⟨_, rfl⟩
    subst hW
    try simp only [Act.put]
    refine wp_region_ph (Lx := GLx 4) [RXP.is (.slice va n cap), RXP.is (.int .i64 (k : Int)), RXP.is (.slice (cutS va k cap) (n - k) (cap - k)), RXP.is (.int .i64 (m : Int)), RXP.is (.int .i64 (k : Int)), RXP.is (.int .i64 ((m : Int) - (k : Int))), RXP.till (fun v w => OwnS W.heap.size w v P1) (fun _ _ _ h k => h.kept k), RXP.is (.slice va n cap), RXP.is (.int .i64 (k : Int)), RXP.is (.slice va k cap), RXP.is (sumV D), RXP.till (fun v w => Sums w v [D]) (fun _ _ _ h k => h.old k), RXP.behind (fun v w => OwnS W.heap.size w v (P1 ++ [D])), RXP.behind (fun v w => OwnS W.heap.size w v (P1 ++ [D]))] [6, 10, 11, 12] (fun k w' => (k < 4 → Below W.heap.size W w') ∧ (k = 4 → Below W.heap.size W w')) (by kernel_rfl) (by kernel_rfl) (by kernel_rfl) (by kernel_rfl) (by kernel_rfl) (⟨fun _ => below_drew (Below.refl _ _), fun h => absurd h (by decide)⟩) ⟨?_, ?_, ?_, ?_, ?_, ?_, ?_, ?_, ?_, ?_, ?_, ?_, ?_, ?_, trivial⟩ ?_
    · intro ac w' ph hF hPh hlt hP hU K hK0
      have e0 : ac.eval (.tmp 0) = .slice va n cap := hF.at 0 (by kernel_rfl)
      exact rop_move _ rfl e0 (wanted_none rfl) (hK0 _ _ GLx.same hPh rfl)
    · intro ac w' ph hF hPh hlt hP hU K hK0
      have e7 : ac.eval (.tmp 7) = .int .i64 (k : Int) := hF.at 7 (by kernel_rfl)
      exact rop_move _ rfl e7 (wanted_none rfl) (hK0 _ _ GLx.same hPh rfl)
    · intro ac w' ph hF hPh hlt hP hU K hK0
      have e34 : ac.eval (.tmp 34) = .slice va n cap := hP 0 (by kernel_rfl)
      have e35 : ac.eval (.tmp 35) = .int .i64 (k : Int) := hP 1 (by kernel_rfl)
      exact rop_sliceG _ _ _ _ _ rfl e34 (by simp [e35]) rfl rfl (scut_l va n cap k hkn w') (wanted_none rfl) (hK0 _ _ GLx.same hPh rfl)
    · intro ac w' ph hF hPh hlt hP hU K hK0
      have e1 : ac.eval (.tmp 1) = .int .i64 (m : Int) := hF.at 1 (by kernel_rfl)
      exact rop_move _ rfl e1 (wanted_none rfl) (hK0 _ _ GLx.same hPh rfl)
    · intro ac w' ph hF hPh hlt hP hU K hK0
      have e7 : ac.eval (.tmp 7) = .int .i64 (k : Int) := hF.at 7 (by kernel_rfl)
      exact rop_move _ rfl e7 (wanted_none rfl) (hK0 _ _ GLx.same hPh rfl)
    · intro ac w' ph hF hPh hlt hP hU K hK0
      have e37 : ac.eval (.tmp 37) = .int .i64 (m : Int) := hP 3 (by kernel_rfl)
      have e38 : ac.eval (.tmp 38) = .int .i64 (k : Int) := hP 4 (by kernel_rfl)
      exact rop_bin _ _ _ _ _ rfl e37 e38 (guard_int _ _ _ _ _ _ _ w') (sub_iG _ _ hsub w') (wanted_none rfl) (hK0 _ _ GLx.same hPh rfl)
    · intro ac w' ph hF hPh hlt hP hU K hK0
      obtain rfl : ph = 0 := (hlt 0 6 rfl).1 rfl
      have e36 : ac.eval (.tmp 36) = .slice (cutS va k cap) (n - k) (cap - k) := hP 2 (by kernel_rfl)
      have e39 : ac.eval (.tmp 39) = .int .i64 ((m : Int) - (k : Int)) := hP 5 (by kernel_rfl)
      have hB : Below W.heap.size W w' := hPh.1 (by decide)
      refine rop_call 31 _ _ rfl #[.slice (cutS va k cap) (n - k) (cap - k), .int .i64 ((m : Int) - (k : Int)), .bool false] (by simp [e36, e39, eval_const]) (by kernel_rfl) (wanted_none rfl) ?_
      refine (HIH.out w' hB).mono ?_
      rintro e w2 ⟨v2, rfl, ho2, hb⟩
      exact ⟨_, rfl, hK0 _ _ (GLx.old (by decide) hb) ⟨fun _ => below_step hB (Nat.le_refl _) hb, fun h => absurd h (by decide)⟩ (fun _ => ho2.lower hB.size)⟩
    · intro ac w' ph hF hPh hlt hP hU K hK0
      have e0 : ac.eval (.tmp 0) = .slice va n cap := hF.at 0 (by kernel_rfl)
      exact rop_move _ rfl e0 (wanted_none rfl) (hK0 _ _ GLx.same hPh rfl)
    · intro ac w' ph hF hPh hlt hP hU K hK0
      have e7 : ac.eval (.tmp 7) = .int .i64 (k : Int) := hF.at 7 (by kernel_rfl)
      exact rop_move _ rfl e7 (wanted_none rfl) (hK0 _ _ GLx.same hPh rfl)
    · intro ac w' ph hF hPh hlt hP hU K hK0
      have e41 : ac.eval (.tmp 41) = .slice va n cap := hP 7 (by kernel_rfl)
      have e42 : ac.eval (.tmp 42) = .int .i64 (k : Int) := hP 8 (by kernel_rfl)
      exact rop_sliceG _ _ _ _ _ rfl e41 rfl (by simp [e42]) rfl (scut_h va n cap k hkc w') (wanted_none rfl) (hK0 _ _ GLx.same hPh rfl)
    · intro ac w' ph hF hPh hlt hP hU K hK0
      obtain rfl : ph = 1 := (hlt 1 10 rfl).1 rfl
      have e43 : ac.eval (.tmp 43) = .slice va k cap := hP 9 (by kernel_rfl)
      have hB : Below W.heap.size W w' := hPh.1 (by decide)
      refine rop_call 23 _ _ rfl #[.slice va k cap] (by simp [e43]) (by kernel_rfl) (wanted_none rfl) ?_
      refine (HRt.out w' hB).mono ?_
      rintro e w2 ⟨rfl, hb⟩
      exact ⟨_, rfl, hK0 _ _ (GLx.old (by decide) hb) ⟨fun _ => below_step hB (Nat.le_refl _) hb, fun h => absurd h (by decide)⟩ rfl⟩
    · intro ac w' ph hF hPh hlt hP hU K hK0
      obtain rfl : ph = 2 := (hlt 2 11 rfl).1 rfl
      have e44 : ac.eval (.tmp 44) = sumV D := hP 10 (by kernel_rfl)
      have hB : Below W.heap.size W w' := hPh.1 (by decide)
      exact rop_bslG _ _ _ rfl #[(0, sumV D)] (by simp [e44]) (build_sum1 D HDl.out w') (wanted_none rfl) (hK0 _ _ (GLx.old (by decide) ((Below.refl _ _).alloc (Nat.le_refl _) _)) ⟨fun _ => below_step hB (Nat.le_refl _) ((Below.refl w'.heap.size w').alloc (Nat.le_refl _) (.cells (D.map u8V).toArray 35)), fun h => absurd h (by decide)⟩ (fun _ => Sums.one w' D HDl.out))
    · intro ac w' ph hF hPh hlt hP hU K hK0
      obtain rfl : ph = 3 := (hlt 3 12 rfl).1 rfl
      have e40 : 3 < 4 → OwnS W.heap.size w' (ac.eval (.tmp 40)) P1 := hP 6 (by kernel_rfl)
      have e45 : 3 < 4 → Sums w' (ac.eval (.tmp 45)) [D] := hP 11 (by kernel_rfl)
      have hB : Below W.heap.size W w' := hPh.1 (by decide)
      obtain ⟨v6, w6, hr6, ho6, b6⟩ := sappend_own (B := W.heap.size) 22 (e40 (by decide)) (e45 (by decide)) hB.size (by have := HPl.out; simp; omega)
      exact rop_appendG _ _ _ rfl rfl rfl hr6 (wanted_none rfl) (hK0 _ _ (GLx.last rfl) ⟨fun h => absurd h (by decide), fun _ => hB.trans b6⟩ ⟨rfl, ho6⟩)
    · intro ac w' ph hF hPh hlt hP hU K hK0
      have e46 : ph = 4 ∧ OwnS W.heap.size w' (ac.eval (.tmp 46)) (P1 ++ [D]) := hP 12 (by kernel_rfl)
      exact rop_assign _ rfl rfl (wanted_none rfl) (hK0 _ _ GLx.same hPh e46)
    · intro ac w' hF hPh hT
      have e6 : 4 = 4 ∧ OwnS W.heap.size w' (ac.eval (.tmp 6)) (P1 ++ [D]) := hT 13 (by decide)
      rw [hF.setsG [34, 35, 36, 37, 38, 39, 40, 41, 42, 43, 44, 45, 46, 6] (by kernel_rfl)]
      simp only [List.foldl_cons, List.foldl_nil, List.setIfInBounds_toArray, List.set_cons_succ, List.set_cons_zero]
      generalize ac.eval (.tmp 34) = u34
      generalize ac.eval (.tmp 35) = u35
      generalize ac.eval (.tmp 36) = u36
      generalize ac.eval (.tmp 37) = u37
      generalize ac.eval (.tmp 38) = u38
      generalize ac.eval (.tmp 39) = u39
      generalize ac.eval (.tmp 40) = u40
      generalize ac.eval (.tmp 41) = u41
      generalize ac.eval (.tmp 42) = u42
      generalize ac.eval (.tmp 43) = u43
      generalize ac.eval (.tmp 44) = u44
      generalize ac.eval (.tmp 45) = u45
      generalize ac.eval (.tmp 46) = u46
      generalize ac.eval (.tmp 6) = v6 at e6 ⊢
      clear  hT hF ac
      replace e6 := e6.2
      have hfin := hPh.2 rfl
      go_wp2
      go_ret
      exact ⟨_, rfl, by rw [HRES.out]; exact e6, hfin⟩
set_option maxRecDepth 100000 in
theorem rPath_any (v : Value) (l : Hs) (m : Int) (w : World) (hv : Sums w v l) (hn : l.length ≤ 100000) :
    Calls Tryd.prog 12 #[v, .int .i64 m] w fun e w' => ∃ v', e = .returned (.tuple #[v', .bool (pathZ l m).2]) ∧ OwnS w.heap.size w' v' (pathZ l m).1 ∧ Below w.heap.size w w' := by
  by_cases h : 0 ≤ m ∧ m < (l.length : Int)
  · obtain ⟨k, rfl⟩ := Int.eq_ofNat_of_zero_le (show 0 ≤ m by omega)
    rw [pathZ_t l k (by omega)]
    have hin := rpath_any l.length l k v w rfl hn (by omega) hv
    obtain ⟨va, cap, rfl, hlc, hcap⟩ := hv.slice
    have HIN := Lib.hid hin
    have h0 := h.1
    have h1 : ¬ (l.length : Int) ≤ (k : Int) := by omega
    clear hv h hin
    go_enter Tryd.func12, Tryd.ntmps12
    go_wp2_with (go_at_call 29; ((with_reducible refine HIN.out.mono ?_); rintro e w1 ⟨v1, rfl, ho1, b1⟩; obtain ⟨a1, c1, rfl, -, -⟩ := ho1.sums.slice; have HO1 := Lib.hid ho1; clear ho1))
    go_ret2
    exact ⟨_, rfl, HO1.out, b1⟩
  · rw [pathZ_f l m h]
    obtain ⟨va, cap, rfl, hlc, hcap⟩ := hv.slice
    have hh : m < 0 ∨ (0 ≤ m ∧ (l.length : Int) ≤ m) := by omega
    clear hv h
    rcases hh with h | ⟨h, h1⟩ <;>
    · go_enter Tryd.func12, Tryd.ntmps12
      go_wp2
      go_ret2
      exact ⟨_, rfl, OwnS.nil _ _, Below.refl _ _⟩
set_option maxRecDepth 100000 in
theorem rLinks_any (v : Value) (l : Hs) (m : Int) (w : World) (hv : Sums w v l) (hn : l.length ≤ 100000) :
    Calls Tryd.prog 14 #[v, .int .i64 m] w fun e w' => ∃ v', e = .returned (.tuple #[v', .bool (linksZ l m).2]) ∧ OwnS w.heap.size w' v' (linksZ l m).1 ∧ Below w.heap.size w w' := by
  by_cases h : 1 ≤ m ∧ m ≤ (l.length : Int)
  · obtain ⟨k, rfl⟩ := Int.eq_ofNat_of_zero_le (show 0 ≤ m by omega)
    rw [linksZ_t l k (by omega) (by omega)]
    have hin := rlinks_any l.length l k true v w rfl hn (by omega) (by omega) hv
    obtain ⟨va, cap, rfl, hlc, hcap⟩ := hv.slice
    have HIN := Lib.hid hin
    have h0 := h.1
    have h1 : ¬ (l.length : Int) < (k : Int) := by omega
    clear hv h hin
    go_enter Tryd.func14, Tryd.ntmps14
    go_wp2_with (go_at_call 31; ((with_reducible refine HIN.out.mono ?_); rintro e w1 ⟨v1, rfl, ho1, b1⟩; obtain ⟨a1, c1, rfl, -, -⟩ := ho1.sums.slice; have HO1 := Lib.hid ho1; clear ho1))
    go_ret2
    exact ⟨_, rfl, HO1.out, b1⟩
  · rw [linksZ_f l m h]
    obtain ⟨va, cap, rfl, hlc, hcap⟩ := hv.slice
    have hh : m < 1 ∨ (1 ≤ m ∧ (l.length : Int) < m) := by omega
    clear hv h
    rcases hh with h | ⟨h, h1⟩ <;>
    · go_enter Tryd.func14, Tryd.ntmps14
      go_wp2
      go_ret2
      exact ⟨_, rfl, OwnS.nil _ _, Below.refl _ _⟩
end Go.Proofs.YtagocdcclghdaaaDoor
