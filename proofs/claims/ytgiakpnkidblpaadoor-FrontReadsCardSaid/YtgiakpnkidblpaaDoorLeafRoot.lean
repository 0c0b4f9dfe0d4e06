/-
  Package leaf: Root; the document's own.
-/
import Derived.Test.YtgiakpnkidblpaaDoorLeafFn
import Derived.Test.YtgiakpnkidblpaaDoorLeafSplit
namespace Go.Proofs.YtgiakpnkidblpaaDoor
open Go.RowKit

theorem index_sums (b o n cap k : Nat) (h : k < n) (w : World) : (Instr.indexAt 22 (.slice (some ⟨b, o, none⟩) n cap) (.int .i64 (k : Int))).run Tryd.prog w = .ok (.pointer (some ⟨b, o + k * 32, none⟩)) w := by
  go_simp
set_option maxHeartbeats 2000000 in
set_option maxRecDepth 100000 in
theorem rleafRoot_any (n : Nat) : ∀ (l : Hs) (v : Value) (w : World), l.length = n → n ≤ 1000000 → Sums w v l → 
    Calls Tryd.prog 17 #[v] w fun e w' => e = .returned (sumV (Tree.root l)) ∧ Below w.heap.size w w' := by
  induction n using Nat.strongRecOn with
  | _ n ih =>
  intro l v w hlen hn6 hv
  obtain ⟨va, cap, rfl, hlc, hcap⟩ := hv.slice
  by_cases h0 : l.length = 0
  · obtain rfl : l = [] := List.eq_nil_of_length_eq_zero h0
    simp only [List.length_nil] at hv hlc ⊢
    obtain ⟨D, hD⟩ : ∃ D, D = Tree.root [] := ⟨_, rfl⟩
    have hDl : D.length = 32 := by rw [hD]; exact Tree.empty_length
    rw [← hD]
    have HD := Lib.hid hD
    have HDl := Lib.hid hDl
    obtain ⟨w0, hw0⟩ : ∃ w0, w0 = w.alloc zSum := ⟨_, rfl⟩
    have b0 : Below w.heap.size w w0 := by rw [hw0]; exact (Below.refl _ _).alloc (Nat.le_refl _) _
    have z0 : w0.heap[w.heap.size]? = some (.cells ((List.replicate 32 (0 : UInt8)).map u8V).toArray 31 (0, 0)) := by rw [hw0]; exact heap_alloc_last _ _
    have Hz0 := Lib.hid z0
    have l0 : w.heap.size < w0.heap.size := by rw [hw0]; simp
    have hc : Calls Tryd.prog 32 #[.string ⟨#[]⟩] w0 fun e w' => e = .returned (sumV D) ∧ Below w0.heap.size w0 w' := by rw [hD]; exact rof_any ⟨#[]⟩ [] rfl w0 (by decide)
    have HC := Lib.hid hc
    clear hD hDl z0 hc hv ih hlen
    go_enter Tryd.func17, Tryd.ntmps17
    go_upto_region 1 with (fail)
    change Code.wp _ _ _ _ (w.alloc zSum)
    rw [← hw0]
    clear hw0
    go_wp2_with (first
      | (go_at_call 32; ((with_reducible refine HC.out.mono ?_); rintro e w2 ⟨rfl, b2⟩; have z2 := Lib.hid ((b2.block _ l0).trans Hz0.out)))
      | refine wpList_store_mid rfl 31 (.tmp 2) (.tmp 7) rfl w.heap.size 0 (D.map u8V).toArray rfl rfl (sum_there z2.out HDl.out) (sum_info HDl.out) (sum_one D) ?_)
    exact bodyPost_ret (v := sumV D) (results_cell (t := 2) (ty := 31) (b := w.heap.size) (cs := D.map u8V) rfl _ _ _ rfl (sum_range z2.out HDl.out) Tryd.underlying31 rfl (sum_info' HDl.out)) rfl ⟨rfl, below_setCells (Nat.le_refl _) _ _ _ (below_step b0 (Nat.le_refl _) b2)⟩

  by_cases h1 : l.length = 1
  · obtain ⟨x, rfl⟩ := List.length_eq_one_iff.1 h1
    simp only [List.length_singleton] at hv hlc ⊢
    obtain ⟨b, off, rfl, hb, -, hr⟩ := hv.at 0 (by simp)
    have hx : x.length = 32 := hv.ok x (by simp)
    obtain ⟨D, hD⟩ : ∃ D, D = Tree.root [x] := ⟨_, rfl⟩
    have hDl : D.length = 32 := by rw [hD]; exact hx
    rw [← hD]
    have HD := Lib.hid hD
    have HDl := Lib.hid hDl
    obtain ⟨w0, hw0⟩ : ∃ w0, w0 = w.alloc zSum := ⟨_, rfl⟩
    have b0 : Below w.heap.size w w0 := by rw [hw0]; exact (Below.refl _ _).alloc (Nat.le_refl _) _
    have z0 : w0.heap[w.heap.size]? = some (.cells ((List.replicate 32 (0 : UInt8)).map u8V).toArray 31 (0, 0)) := by rw [hw0]; exact heap_alloc_last _ _
    have Hz0 := Lib.hid z0
    have l0 : w.heap.size < w0.heap.size := by rw [hw0]; simp
    have hr0 : w0.rangeAt b off (D.map u8V) := by
      rw [hD]
      have := below_range b0 hb hr
      simpa [Tree.root_one] using this
    have Hr := Lib.hid hr0
    clear hD hDl z0 hv ih hr hr0 hlen
    go_enter Tryd.func17, Tryd.ntmps17
    go_upto_region 1 with (fail)
    change Code.wp _ _ _ _ (w.alloc zSum)
    rw [← hw0]
    clear hw0
    go_wp2_with (first
      | refine wpList_load_mid rfl 31 (.tmp 12) rfl b off rfl (D.map u8V) _ Hr.out Tryd.underlying31 rfl (sum_info' HDl.out) ?_
      | refine wpList_store_mid rfl 31 (.tmp 2) (.tmp 13) rfl w.heap.size 0 (D.map u8V).toArray rfl rfl (sum_there Hz0.out HDl.out) (sum_info HDl.out) (sum_one D) ?_)
    exact bodyPost_ret (v := sumV D) (results_cell (t := 2) (ty := 31) (b := w.heap.size) (cs := D.map u8V) rfl _ _ _ rfl (sum_range Hz0.out HDl.out) Tryd.underlying31 rfl (sum_info' HDl.out)) rfl ⟨rfl, below_setCells (Nat.le_refl _) _ _ _ b0⟩

  obtain ⟨D, hD⟩ : ∃ D, D = Tree.root l := ⟨_, rfl⟩
  have hDl : D.length = 32 := by rw [hD]; exact Tree.root_length l hv.ok
  rw [← hD]
  have HD := Lib.hid hD
  have HDl := Lib.hid hDl
  obtain ⟨w0, hw0⟩ : ∃ w0, w0 = w.alloc zSum := ⟨_, rfl⟩
  have b0 : Below w.heap.size w w0 := by rw [hw0]; exact (Below.refl _ _).alloc (Nat.le_refl _) _
  have z0 : w0.heap[w.heap.size]? = some (.cells ((List.replicate 32 (0 : UInt8)).map u8V).toArray 31 (0, 0)) := by rw [hw0]; exact heap_alloc_last _ _
  have Hz0 := Lib.hid z0
  have l0 : w.heap.size < w0.heap.size := by rw [hw0]; simp
  have hgo := Tree.root_go l (by omega)
  have hlt := Tree.split_lt (n := l.length) (by omega)
  have hps := Tree.split_pos (n := l.length) (by omega)
  obtain ⟨k, hk⟩ : ∃ k, k = Tree.split l.length := ⟨_, rfl⟩
  rw [← hk] at hgo hlt hps
  obtain ⟨m, hm⟩ : ∃ m, m = l.length := ⟨_, rfl⟩
  have hsp : ∀ u : World, Calls Tryd.prog 33 #[.int .i64 (m : Int)] u fun e w' => e = .returned (.int .i64 (k : Int)) ∧ u = w' := fun u => by
    have := rleafSplit_any (m : Int) (by omega) (by omega) u
    have e : Tree.split (m : Int).toNat = k := by rw [Int.toNat_natCast, hm, ← hk]
    rwa [e] at this
  have Hsp := Lib.hid hsp
  have hvh := hv.head k (by omega)
  have hvt := hv.tail k (by omega)
  rw [← hm] at hv hvt hlc hlt h0 h1 hlen ⊢
  have hkc : k ≤ cap := by omega
  have hkm : k ≤ m := by omega
  have h0' : ¬ (m : Int) = 0 := by omega
  have h1' : ¬ (m : Int) = 1 := by omega
  obtain ⟨A, hA⟩ : ∃ A, A = Tree.root (l.take k) := ⟨_, rfl⟩
  obtain ⟨B, hBB⟩ : ∃ B, B = Tree.root (l.drop k) := ⟨_, rfl⟩
  have hAl : A.length = 32 := by rw [hA]; exact Tree.root_length _ hvh.ok
  have hBl : B.length = 32 := by rw [hBB]; exact Tree.root_length _ hvt.ok
  have hl1 : (l.take k).length = k := by rw [List.length_take]; omega
  have hl2 : (l.drop k).length = m - k := by rw [List.length_drop, hm]
  have ha : ∀ u, Below w0.heap.size w0 u → Calls Tryd.prog 17 #[.slice va k cap] u fun e w' => e = .returned (sumV A) ∧ Below u.heap.size u w' := fun u hu => by
    rw [hA]
    exact ih k (by omega) _ _ u hl1 (by omega) ((hvh.old b0).old hu)
  have hb : ∀ u, Below w0.heap.size w0 u → Calls Tryd.prog 17 #[.slice (cutS va k cap) (m - k) (cap - k)] u fun e w' => e = .returned (sumV B) ∧ Below u.heap.size u w' := fun u hu => by
    rw [hBB]
    exact ih (m - k) (by omega) _ _ u hl2 (by omega) ((hvt.old b0).old hu)
  have hn : ∀ u, Below w0.heap.size w0 u → Calls Tryd.prog 26 #[sumV A, sumV B] u fun e w' => e = .returned (sumV D) ∧ Below u.heap.size u w' := fun u hu => by
    rw [hD, hgo, ← hA, ← hBB]
    exact rleafNode_any A B hAl hBl u
  have HA := Lib.hid ha
  have HBb := Lib.hid hb
  have HN := Lib.hid hn
  clear hD hDl hgo hk hm hA hBB hAl hBl hl1 hl2 ha hb hn hlen hsp hvh hvt hv ih h0 h1 z0
  go_enter Tryd.func17, Tryd.ntmps17
  go_upto_region 1 with (fail)
  change Code.wp _ _ _ _ (w.alloc zSum)
  rw [← hw0]
  clear hw0
  go_upto_region 6 with (first
    | (go_at_call 33; ((with_reducible refine (Hsp.out _).mono ?_); rintro e w1 ⟨rfl, hw1⟩))
    | fail)
  try subst hw1
  obtain ⟨W, hW⟩ : ∃ W, W = w0 := ⟨_, rfl⟩
  obtain ⟨q, hq⟩ : ∃ q, q = w.heap.size := ⟨_, rfl⟩
  subst hW
  have HZ := Lib.hid Hz0.out
  have hqW := l0
  rw [← hq] at HZ hqW ⊢
  have Hq := Lib.hid hq
  clear hq

  try simp only [Act.put]
  refine wp_region_ph (Lx := GLx 4) [RXP.is (.slice va m cap), RXP.is (.int .i64 (k : Int)), RXP.is (.slice va k cap), RXP.is (sumV A), RXP.is (.slice va m cap), RXP.is (.int .i64 (k : Int)), RXP.is (.slice (cutS va k cap) (m - k) (cap - k)), RXP.is (sumV B), RXP.is (sumV D), RXP.any] [3, 7, 8, 9] (fun k w' => (k < 4 → Below W.heap.size W w') ∧ (k = 4 → ∃ u, Below W.heap.size W u ∧ w' = u.setCells q 0 (D.map u8V))) (by kernel_rfl) (by kernel_rfl) (by kernel_rfl) (by kernel_rfl) (by kernel_rfl) (⟨fun _ => below_drew (Below.refl _ _), fun h => by cases h⟩) ⟨?_, ?_, ?_, ?_, ?_, ?_, ?_, ?_, ?_, ?_, trivial⟩ ?_
  · intro ac w' ph hF hPh hlt hP hU K hK0
    have e0 : ac.eval (.tmp 0) = .slice va m cap := hF.at 0 (by kernel_rfl)
    exact rop_move _ rfl e0 (wanted_none rfl) (hK0 _ _ GLx.same hPh rfl)
  · intro ac w' ph hF hPh hlt hP hU K hK0
    have e3 : ac.eval (.tmp 3) = .int .i64 (k : Int) := hF.at 3 (by kernel_rfl)
    exact rop_move _ rfl e3 (wanted_none rfl) (hK0 _ _ GLx.same hPh rfl)
  · intro ac w' ph hF hPh hlt hP hU K hK0
    have e17 : ac.eval (.tmp 17) = .slice va m cap := hP 0 (by kernel_rfl)
    have e18 : ac.eval (.tmp 18) = .int .i64 (k : Int) := hP 1 (by kernel_rfl)
    exact rop_sliceG _ _ _ _ _ rfl e17 rfl (by simp [e18]) rfl (scut_h va m cap k hkc w') (wanted_none rfl) (hK0 _ _ GLx.same hPh rfl)
  · intro ac w' ph hF hPh hlt hP hU K hK0
    obtain rfl : ph = 0 := (hlt 0 3 rfl).1 rfl
    have e19 : ac.eval (.tmp 19) = .slice va k cap := hP 2 (by kernel_rfl)
    have hB : Below W.heap.size W w' := hPh.1 (by decide)
    refine rop_call 17 _ _ rfl #[.slice va k cap] (by simp [e19]) (by kernel_rfl) (wanted_none rfl) ?_
    refine (HA.out w' hB).mono ?_
    rintro e w2 ⟨rfl, hb⟩
    exact ⟨_, rfl, hK0 _ _ (GLx.old (by decide) hb) ⟨fun _ => below_step hB (Nat.le_refl _) hb, fun h => by cases h⟩ rfl⟩
  · intro ac w' ph hF hPh hlt hP hU K hK0
    have e0 : ac.eval (.tmp 0) = .slice va m cap := hF.at 0 (by kernel_rfl)
    exact rop_move _ rfl e0 (wanted_none rfl) (hK0 _ _ GLx.same hPh rfl)
  · intro ac w' ph hF hPh hlt hP hU K hK0
    have e3 : ac.eval (.tmp 3) = .int .i64 (k : Int) := hF.at 3 (by kernel_rfl)
    exact rop_move _ rfl e3 (wanted_none rfl) (hK0 _ _ GLx.same hPh rfl)
  · intro ac w' ph hF hPh hlt hP hU K hK0
    have e21 : ac.eval (.tmp 21) = .slice va m cap := hP 4 (by kernel_rfl)
    have e22 : ac.eval (.tmp 22) = .int .i64 (k : Int) := hP 5 (by kernel_rfl)
    exact rop_sliceG _ _ _ _ _ rfl e21 (by simp [e22]) rfl rfl (scut_l va m cap k hkm w') (wanted_none rfl) (hK0 _ _ GLx.same hPh rfl)
  · intro ac w' ph hF hPh hlt hP hU K hK0
    obtain rfl : ph = 1 := (hlt 1 7 rfl).1 rfl
    have e23 : ac.eval (.tmp 23) = .slice (cutS va k cap) (m - k) (cap - k) := hP 6 (by kernel_rfl)
    have hB : Below W.heap.size W w' := hPh.1 (by decide)
    refine rop_call 17 _ _ rfl #[.slice (cutS va k cap) (m - k) (cap - k)] (by simp [e23]) (by kernel_rfl) (wanted_none rfl) ?_
    refine (HBb.out w' hB).mono ?_
    rintro e w2 ⟨rfl, hb⟩
    exact ⟨_, rfl, hK0 _ _ (GLx.old (by decide) hb) ⟨fun _ => below_step hB (Nat.le_refl _) hb, fun h => by cases h⟩ rfl⟩
  · intro ac w' ph hF hPh hlt hP hU K hK0
    obtain rfl : ph = 2 := (hlt 2 8 rfl).1 rfl
    have e20 : ac.eval (.tmp 20) = sumV A := hP 3 (by kernel_rfl)
    have e24 : ac.eval (.tmp 24) = sumV B := hP 7 (by kernel_rfl)
    have hB : Below W.heap.size W w' := hPh.1 (by decide)
    refine rop_call 26 _ _ rfl #[sumV A, sumV B] (by simp [e20, e24]) (by kernel_rfl) (wanted_none rfl) ?_
    refine (HN.out w' hB).mono ?_
    rintro e w2 ⟨rfl, hb⟩
    exact ⟨_, rfl, hK0 _ _ (GLx.old (by decide) hb) ⟨fun _ => below_step hB (Nat.le_refl _) hb, fun h => by cases h⟩ rfl⟩
  · intro ac w' ph hF hPh hlt hP hU K hK0
    obtain rfl : ph = 3 := (hlt 3 9 rfl).1 rfl
    have e2 : ac.eval (.tmp 2) = .pointer (some ⟨q, 0, none⟩) := hF.at 2 (by kernel_rfl)
    have e25 : ac.eval (.tmp 25) = sumV D := hP 8 (by kernel_rfl)
    have hB : Below W.heap.size W w' := hPh.1 (by decide)
    have hz := (hB.block q hqW).trans HZ.out
    exact rop_storeG _ _ _ rfl e2 e25 (run_storeAt_mid w' q 0 _ _ (sum_there hz HDl.out) (sum_info HDl.out) (sum_one D)) (wanted_none rfl) (hK0 _ _ (GLx.last rfl) ⟨fun h => absurd h (by decide), fun _ => ⟨w', hB, rfl⟩⟩ trivial)
  · intro ac w' hF hPh hT
    rw [hF.setsG [17, 18, 19, 20, 21, 22, 23, 24, 25] (by kernel_rfl)]
    simp only [List.foldl_cons, List.foldl_nil, List.setIfInBounds_toArray, List.set_cons_succ, List.set_cons_zero]
    generalize ac.eval (.tmp 17) = u17
    generalize ac.eval (.tmp 18) = u18
    generalize ac.eval (.tmp 19) = u19
    generalize ac.eval (.tmp 20) = u20
    generalize ac.eval (.tmp 21) = u21
    generalize ac.eval (.tmp 22) = u22
    generalize ac.eval (.tmp 23) = u23
    generalize ac.eval (.tmp 24) = u24
    generalize ac.eval (.tmp 25) = u25
    clear  hT hF ac
    obtain ⟨u, bu, rfl⟩ := hPh.2 rfl
    have hz := (bu.block q hqW).trans HZ.out
    have hbu := below_setCells (b := q) (B := w.heap.size) (a := w) (by rw [Hq.out]; exact Nat.le_refl _) (D.map u8V) 0 u (below_step b0 (Nat.le_refl _) bu)
    have Hhz := Lib.hid hz
    clear hPh hz
    go_wp2
    exact bodyPost_ret (v := sumV D) (results_cell (t := 2) (ty := 31) (b := q) (cs := D.map u8V) rfl _ _ _ rfl (sum_range Hhz.out HDl.out) Tryd.underlying31 rfl (sum_info' HDl.out)) rfl ⟨rfl, hbu⟩

end Go.Proofs.YtgiakpnkidblpaaDoor
