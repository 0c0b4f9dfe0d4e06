/-
  Package leaf: Leaf, Empty, Preimage, Node; the document's own (scriniumref09).
-/
import Derived.Test.YtgiakpnkidblpaaDoorLeafPure
import Derived.Test.YtgiakpnkidblpaaDoorSumRow
import Derived.Test.YtgiakpnkidblpaaDoorMGen
import Derived.Test.YtgiakpnkidblpaaDoorShaAwake
import Derived.Test.YtgiakpnkidblpaaDoorRefOf
namespace Go.Proofs.YtgiakpnkidblpaaDoor
open Go.RowKit

/-- The cells of a new variable that is a hash. -/
abbrev zSum : Obj := .cells ((List.replicate 32 (0 : UInt8)).map u8V).toArray 31
theorem pre_bytes (a b : List UInt8) : ((⟨#[1]⟩ : ByteArray) ++ ⟨a.toArray⟩ ++ ⟨b.toArray⟩) = ⟨(Tree.pre a b).toArray⟩ := by
  apply ByteArray.ext
  simp [ByteArray.data_append, Tree.pre]
theorem pre_size (a b : List UInt8) (ha : a.length = 32) (hb : b.length = 32) : (Tree.pre a b).length = 65 := by simp [Tree.pre, ha, hb]
set_option maxHeartbeats 1000000 in
set_option maxRecDepth 100000 in
theorem leafEmpty_any (w : World) (hK : KT w) :
    Calls Tryd.prog 29 #[] w fun e w' => e = .returned (sumV (Tree.empty)) ∧ Below w.heap.size w w' := by
  obtain ⟨D, hD⟩ : ∃ D, D = Tree.empty := ⟨_, rfl⟩
  have hDl : D.length = 32 := by rw [hD]; exact Tree.empty_length
  rw [← hD]
  have HD := Lib.hid hD
  have HDl := Lib.hid hDl
  obtain ⟨w0, hw0⟩ : ∃ w0, w0 = w.alloc zSum := ⟨_, rfl⟩
  have b0 : Below w.heap.size w w0 := by rw [hw0]; exact (Below.refl _ _).alloc (Nat.le_refl _) _
  have z0 : w0.heap[w.heap.size]? = some (.cells ((List.replicate 32 (0 : UInt8)).map u8V).toArray 31 (0, 0)) := by rw [hw0]; exact heap_alloc_last _ _
  have Hz0 := Lib.hid z0
  have l0 : w.heap.size < w0.heap.size := by rw [hw0]; simp
  have hc := of_nothing w0 (hK.old b0)
  change Calls _ _ _ _ fun e w' => e = .returned (sumV Tree.empty) ∧ _ at hc
  rw [← hD] at hc
  have HC := Lib.hid hc
  clear hD hDl z0 hc 
  go_enter Tryd.func29, Tryd.ntmps29
  go_upto_region 1 with (fail)
  change Code.wp _ _ _ _ (w.alloc zSum)
  rw [← hw0]
  clear hw0
  go_wp2_with (first
    | (go_at_call 50; ((with_reducible refine HC.out.mono ?_); rintro e w2 ⟨rfl, b2⟩; have z2 := Lib.hid ((b2.block _ l0).trans Hz0.out)))
    | refine wpList_store_mid rfl 31 (.tmp 0) (.tmp 1) rfl w.heap.size 0 (D.map u8V).toArray rfl rfl (sum_there z2.out HDl.out) (sum_info HDl.out) (sum_one D) ?_)
  exact bodyPost_ret (v := sumV D) (results_cell (t := 0) (ty := 31) (b := w.heap.size) (cs := D.map u8V) rfl _ _ _ rfl (sum_range z2.out HDl.out) Tryd.underlying31 rfl (sum_info' HDl.out)) rfl ⟨rfl, below_setCells (Nat.le_refl _) _ _ _ (below_step b0 (Nat.le_refl _) b2)⟩

set_option maxHeartbeats 1000000 in
set_option maxRecDepth 100000 in
theorem rleafLeaf_any (S : ByteArray) (s : List UInt8) (hS : S.data.toList = s) (w : World) (hsz : S.size < 288230376151711744) :
    Calls Tryd.prog 25 #[.string S] w fun e w' => e = .returned (sumV (Tree.leafH s)) ∧ Below w.heap.size w w' := by
  obtain ⟨D, hD⟩ : ∃ D, D = Tree.leafH s := ⟨_, rfl⟩
  have hDl : D.length = 32 := by rw [hD]; exact Tree.leafH_length _
  rw [← hD]
  have HD := Lib.hid hD
  have HDl := Lib.hid hDl
  obtain ⟨w0, hw0⟩ : ∃ w0, w0 = w.alloc zSum := ⟨_, rfl⟩
  have b0 : Below w.heap.size w w0 := by rw [hw0]; exact (Below.refl _ _).alloc (Nat.le_refl _) _
  have z0 : w0.heap[w.heap.size]? = some (.cells ((List.replicate 32 (0 : UInt8)).map u8V).toArray 31 (0, 0)) := by rw [hw0]; exact heap_alloc_last _ _
  have Hz0 := Lib.hid z0
  have l0 : w.heap.size < w0.heap.size := by rw [hw0]; simp
  have hc := rof_any ((⟨#[0]⟩ : ByteArray) ++ S) (0 :: s) (by rw [app_data, hS]; rfl) w0 (by rw [Lib.size_eq, hS] at hsz; simp; omega)
  change Calls _ _ _ _ fun e w' => e = .returned (sumV (Tree.leafH s)) ∧ _ at hc
  rw [← hD] at hc
  have HC := Lib.hid hc
  clear hD hDl z0 hc hS
  go_enter Tryd.func25, Tryd.ntmps25
  go_upto_region 1 with (fail)
  change Code.wp _ _ _ _ (w.alloc zSum)
  rw [← hw0]
  clear hw0
  go_wp2_with (first
    | (go_at_call 32; ((with_reducible refine HC.out.mono ?_); rintro e w2 ⟨rfl, b2⟩; have z2 := Lib.hid ((b2.block _ l0).trans Hz0.out)))
    | refine wpList_store_mid rfl 31 (.tmp 2) (.tmp 5) rfl w.heap.size 0 (D.map u8V).toArray rfl rfl (sum_there z2.out HDl.out) (sum_info HDl.out) (sum_one D) ?_)
  exact bodyPost_ret (v := sumV D) (results_cell (t := 2) (ty := 31) (b := w.heap.size) (cs := D.map u8V) rfl _ _ _ rfl (sum_range z2.out HDl.out) Tryd.underlying31 rfl (sum_info' HDl.out)) rfl ⟨rfl, below_setCells (Nat.le_refl _) _ _ _ (below_step b0 (Nat.le_refl _) b2)⟩

set_option maxHeartbeats 1000000 in
set_option maxRecDepth 100000 in
theorem leafPre_any (a b : List UInt8) (ha : a.length = 32) (hb : b.length = 32) (w : World) :
    Calls Tryd.prog 52 #[sumV a, sumV b] w fun e w' => e = .returned (.string ⟨(Tree.pre a b).toArray⟩) ∧ Below w.heap.size w w' := by
  unfold sumV
  obtain ⟨w0, hw0⟩ : ∃ w0, w0 = (w.alloc (.cells (a.map u8V).toArray 31)).alloc (.cells (b.map u8V).toArray 31) := ⟨_, rfl⟩
  have b0 : Below w.heap.size w w0 := by rw [hw0]; exact ((Below.refl _ _).alloc (Nat.le_refl _) _).alloc (by simp) _
  have s0 : w0.heap.size = w.heap.size + 2 := by rw [hw0]; simp
  have la : w.heap.size < w0.heap.size := by omega
  have lb : w.heap.size + 1 < w0.heap.size := by omega
  have rb : w0.rangeAt (w.heap.size + 1) 0 (b.map u8V) := by
    rw [hw0]
    have := range_box (w.alloc (.cells (a.map u8V).toArray 31)) (b.map u8V) 31
    rwa [World.size_alloc] at this
  have ra : w0.rangeAt w.heap.size 0 (a.map u8V) := by
    rw [hw0]
    exact below_range ((Below.refl _ _).alloc (Nat.le_refl _) _) (by simp) (range_box w (a.map u8V) 31)
  have sz1 : (⟨#[1]⟩ : ByteArray).size = 1 := rfl
  have sza : (⟨a.toArray⟩ : ByteArray).size = 32 := by rw [Lib.size_eq]; exact ha
  have szb : (⟨b.toArray⟩ : ByteArray).size = 32 := by rw [Lib.size_eq]; exact hb
  have Hb0 := Lib.hid b0
  go_enter Tryd.func52, Tryd.ntmps52
  go_upto_region 1 with (fail)
  rw [← hw0]
  clear hw0
  try simp only [Act.put]
  refine wp_region_tab [RT.is (sumV a), RT.is (.string ⟨a.toArray⟩), RT.is (.string (⟨#[1]⟩ ++ ⟨a.toArray⟩)), RT.is (sumV b), RT.is (.string ⟨b.toArray⟩), RT.is (.string (⟨#[1]⟩ ++ ⟨a.toArray⟩ ++ ⟨b.toArray⟩)), RT.is (.string (⟨#[1]⟩ ++ ⟨a.toArray⟩ ++ ⟨b.toArray⟩))] (by kernel_rfl) (by kernel_rfl) (by kernel_rfl) (by kernel_rfl) ⟨?_, ?_, ?_, ?_, ?_, ?_, ?_, trivial⟩ ?_
  · intro ac w' hF hL hP hU K hK
    have hB := below_undrew hL
    have e2 : ac.eval (.tmp 2) = .pointer (some ⟨w.heap.size, 0, none⟩) := hF.at 2 (by kernel_rfl)
    exact rop_ld _ _ rfl e2 (run_loadAt_mid _ _ _ _ _ _ (below_range hB la ra) Tryd.underlying31 rfl (sum_info' ha)) (wanted_none rfl) (hK _ _ (le8_refl _) rfl)
  · intro ac w' hF hL hP hU K hK
    have hB := below_undrew hL
    have e5 : ac.eval (.tmp 5) = sumV a := hP 0 (by kernel_rfl)
    refine rop_call 34 _ _ rfl #[sumV a] (by simp [e5]) (by kernel_rfl) (wanted_none rfl) ?_
    refine (bytes_any a w' ha).mono ?_
    rintro e w2 ⟨rfl, hb⟩
    exact ⟨_, rfl, hK _ _ hb rfl⟩
  · intro ac w' hF hL hP hU K hK
    have hB := below_undrew hL
    have e6 : ac.eval (.tmp 6) = .string ⟨a.toArray⟩ := hP 1 (by kernel_rfl)
    exact rop_bin _ _ _ _ _ rfl rfl e6 (guard_str _ _ _ _ _ _ w') (add_str _ _ (by rw [sz1, sza]; decide) w') (wanted_none rfl) (hK _ _ (le8_refl _) rfl)
  · intro ac w' hF hL hP hU K hK
    have hB := below_undrew hL
    have e3 : ac.eval (.tmp 3) = .pointer (some ⟨w.heap.size + 1, 0, none⟩) := hF.at 3 (by kernel_rfl)
    exact rop_ld _ _ rfl e3 (run_loadAt_mid _ _ _ _ _ _ (below_range hB lb rb) Tryd.underlying31 rfl (sum_info' hb)) (wanted_none rfl) (hK _ _ (le8_refl _) rfl)
  · intro ac w' hF hL hP hU K hK
    have hB := below_undrew hL
    have e8 : ac.eval (.tmp 8) = sumV b := hP 3 (by kernel_rfl)
    refine rop_call 34 _ _ rfl #[sumV b] (by simp [e8]) (by kernel_rfl) (wanted_none rfl) ?_
    refine (bytes_any b w' hb).mono ?_
    rintro e w2 ⟨rfl, hb⟩
    exact ⟨_, rfl, hK _ _ hb rfl⟩
  · intro ac w' hF hL hP hU K hK
    have hB := below_undrew hL
    have e7 : ac.eval (.tmp 7) = .string (⟨#[1]⟩ ++ ⟨a.toArray⟩) := hP 2 (by kernel_rfl)
    have e9 : ac.eval (.tmp 9) = .string ⟨b.toArray⟩ := hP 4 (by kernel_rfl)
    exact rop_bin _ _ _ _ _ rfl e7 e9 (guard_str _ _ _ _ _ _ w') (add_str _ _ (by rw [ByteArray.size_append, sz1, sza, szb]; decide) w') (wanted_none rfl) (hK _ _ (le8_refl _) rfl)
  · intro ac w' hF hL hP hU K hK
    have hB := below_undrew hL
    have e10 : ac.eval (.tmp 10) = .string (⟨#[1]⟩ ++ ⟨a.toArray⟩ ++ ⟨b.toArray⟩) := hP 5 (by kernel_rfl)
    exact rop_assign _ rfl e10 (wanted_none rfl) (hK _ _ (le8_refl _) rfl)
  · intro ac w' hF hB hT
    have e4 : ac.eval (.tmp 4) = .string (⟨#[1]⟩ ++ ⟨a.toArray⟩ ++ ⟨b.toArray⟩) := hT 6 (by decide)
    rw [hF.setsG [5, 6, 7, 8, 9, 10, 4] (by kernel_rfl)]
    simp only [List.foldl_cons, List.foldl_nil, List.setIfInBounds_toArray, List.set_cons_succ, List.set_cons_zero, e4]
    generalize ac.eval (.tmp 5) = u5
    generalize ac.eval (.tmp 6) = u6
    generalize ac.eval (.tmp 7) = u7
    generalize ac.eval (.tmp 8) = u8
    generalize ac.eval (.tmp 9) = u9
    generalize ac.eval (.tmp 10) = u10
    clear e4 hT hF ac
    rw [pre_bytes]
    go_wp2
    go_ret
    exact ⟨rfl, Hb0.out.trans (hB.mono (by omega))⟩
set_option maxHeartbeats 1000000 in
set_option maxRecDepth 100000 in
theorem leafNode_any (a b : List UInt8) (ha : a.length = 32) (hb : b.length = 32) (w : World) (hK : KT w) :
    Calls Tryd.prog 31 #[sumV a, sumV b] w fun e w' => e = .returned (sumV (Tree.node a b)) ∧ Below w.heap.size w w' := by
  obtain ⟨D, hD⟩ : ∃ D, D = Tree.node a b := ⟨_, rfl⟩
  have hDl : D.length = 32 := by rw [hD]; exact Tree.node_length _ _
  rw [← hD]
  have HD := Lib.hid hD
  have HDl := Lib.hid hDl
  obtain ⟨w0, hw0⟩ : ∃ w0, w0 = ((w.alloc (.cells (a.map u8V).toArray 31)).alloc (.cells (b.map u8V).toArray 31)).alloc zSum := ⟨_, rfl⟩
  have b0 : Below w.heap.size w w0 := by rw [hw0]; exact (((Below.refl _ _).alloc (Nat.le_refl _) _).alloc (by simp) _).alloc (by simp; omega) _
  have z0 : w0.heap[w.heap.size + 2]? = some (.cells ((List.replicate 32 (0 : UInt8)).map u8V).toArray 31 (0, 0)) := by rw [hw0]; have := heap_alloc_last ((w.alloc (.cells (a.map u8V).toArray 31)).alloc (.cells (b.map u8V).toArray 31)) zSum; rw [World.size_alloc, World.size_alloc] at this; exact this
  have Hz0 := Lib.hid z0
  have l0 : w.heap.size + 2 < w0.heap.size := by rw [hw0]; simp

  have rb : w0.rangeAt (w.heap.size + 1) 0 (b.map u8V) := by
    rw [hw0]
    have := range_box (w.alloc (.cells (a.map u8V).toArray 31)) (b.map u8V) 31
    rw [World.size_alloc] at this
    exact below_range ((Below.refl _ _).alloc (Nat.le_refl _) _) (by simp) this
  have ra : w0.rangeAt w.heap.size 0 (a.map u8V) := by
    rw [hw0]
    exact below_range (((Below.refl _ _).alloc (Nat.le_refl _) _).alloc (by simp) _) (by simp) (range_box w (a.map u8V) 31)
  obtain ⟨T, hT⟩ : ∃ T : ByteArray, T = ⟨(Tree.pre a b).toArray⟩ := ⟨_, rfl⟩
  have hTl : T.data.toList = Tree.pre a b := by rw [hT]
  have hpl := pre_size a b ha hb
  have hp : ∀ u, Calls Tryd.prog 52 #[sumV a, sumV b] u fun e w' => e = .returned (.string T) ∧ Below u.heap.size u w' := fun u => by rw [hT]; exact leafPre_any a b ha hb u
  have hc : ∀ u, Below w0.heap.size w0 u → Calls Tryd.prog 50 #[.slice (some ⟨u.heap.size, 0, none⟩) 1 1] (u.alloc (.cells #[.string T] 9)) fun e w' => e = .returned (sumV D) ∧ Below u.heap.size u w' := fun u hu => by
    rw [hD]
    exact of_one T _ hTl u ((hK.old b0).old hu) (by omega)
  unfold sumV at hp
  have HP := Lib.hid hp
  have HC := Lib.hid hc
  have Ha := Lib.hid ha
  have Hb := Lib.hid hb
  have s0 : w0.heap.size = w.heap.size + 3 := by rw [hw0]; simp
  clear hT hTl hpl hp hc hD hDl z0 ha hb
  unfold sumV
  go_enter Tryd.func31, Tryd.ntmps31
  go_upto_region 1 with (fail)
  change Code.wp _ _ _ _ (((w.alloc (.cells (a.map u8V).toArray 31)).alloc (.cells (b.map u8V).toArray 31)).alloc zSum)
  rw [← hw0]
  clear hw0
  go_wp2_with (first
    | refine wpList_load_mid rfl 31 (.tmp 2) rfl w.heap.size 0 rfl (a.map u8V) _ ra Tryd.underlying31 rfl (sum_info' Ha.out) ?_
    | refine wpList_load_mid rfl 31 (.tmp 3) rfl (w.heap.size + 1) 0 rfl (b.map u8V) _ rb Tryd.underlying31 rfl (sum_info' Hb.out) ?_
    | (go_at_call 52; ((with_reducible refine (HP.out _).mono ?_); rintro e w1 ⟨rfl, b1⟩))
    | (go_at_call 50; ((with_reducible refine (HC.out w1 b1).mono ?_); rintro e w2 ⟨rfl, b2⟩; have bb := below_step (below_step b0 (Nat.le_refl _) b1) (Nat.le_refl _) b2; have z2 := Lib.hid ((b2.block _ (Nat.lt_of_lt_of_le l0 b1.size)).trans ((b1.block _ l0).trans Hz0.out))))
    | refine wpList_store_mid rfl 31 (.tmp 4) (.tmp 9) rfl (w.heap.size + 2) 0 (D.map u8V).toArray rfl rfl (sum_there z2.out HDl.out) (sum_info HDl.out) (sum_one D) ?_)
  exact bodyPost_ret (v := sumV D) (results_cell (t := 4) (ty := 31) (b := w.heap.size + 2) (cs := D.map u8V) rfl _ _ _ rfl (sum_range z2.out HDl.out) Tryd.underlying31 rfl (sum_info' HDl.out)) rfl ⟨rfl, below_setCells (by omega) _ _ _ bb⟩
set_option maxHeartbeats 1000000 in
set_option maxRecDepth 100000 in
theorem rleafPre_any (a b : List UInt8) (ha : a.length = 32) (hb : b.length = 32) (w : World) :
    Calls Tryd.prog 48 #[sumV a, sumV b] w fun e w' => e = .returned (.string ⟨(Tree.pre a b).toArray⟩) ∧ Below w.heap.size w w' := by
  unfold sumV
  obtain ⟨w0, hw0⟩ : ∃ w0, w0 = (w.alloc (.cells (a.map u8V).toArray 31)).alloc (.cells (b.map u8V).toArray 31) := ⟨_, rfl⟩
  have b0 : Below w.heap.size w w0 := by rw [hw0]; exact ((Below.refl _ _).alloc (Nat.le_refl _) _).alloc (by simp) _
  have s0 : w0.heap.size = w.heap.size + 2 := by rw [hw0]; simp
  have la : w.heap.size < w0.heap.size := by omega
  have lb : w.heap.size + 1 < w0.heap.size := by omega
  have rb : w0.rangeAt (w.heap.size + 1) 0 (b.map u8V) := by
    rw [hw0]
    have := range_box (w.alloc (.cells (a.map u8V).toArray 31)) (b.map u8V) 31
    rwa [World.size_alloc] at this
  have ra : w0.rangeAt w.heap.size 0 (a.map u8V) := by
    rw [hw0]
    exact below_range ((Below.refl _ _).alloc (Nat.le_refl _) _) (by simp) (range_box w (a.map u8V) 31)
  have sz1 : (⟨#[1]⟩ : ByteArray).size = 1 := rfl
  have sza : (⟨a.toArray⟩ : ByteArray).size = 32 := by rw [Lib.size_eq]; exact ha
  have szb : (⟨b.toArray⟩ : ByteArray).size = 32 := by rw [Lib.size_eq]; exact hb
  have Hb0 := Lib.hid b0
  go_enter Tryd.func48, Tryd.ntmps48
  go_upto_region 1 with (fail)
  rw [← hw0]
  clear hw0
  try simp only [Act.put]
  refine wp_region_tab [RT.is (sumV a), RT.is (.string ⟨a.toArray⟩), RT.is (.string (⟨#[1]⟩ ++ ⟨a.toArray⟩)), RT.is (sumV b), RT.is (.string ⟨b.toArray⟩), RT.is (.string (⟨#[1]⟩ ++ ⟨a.toArray⟩ ++ ⟨b.toArray⟩)), RT.is (.string (⟨#[1]⟩ ++ ⟨a.toArray⟩ ++ ⟨b.toArray⟩))] (by kernel_rfl) (by kernel_rfl) (by kernel_rfl) (by kernel_rfl) ⟨?_, ?_, ?_, ?_, ?_, ?_, ?_, trivial⟩ ?_
  · intro ac w' hF hL hP hU K hK
    have hB := below_undrew hL
    have e2 : ac.eval (.tmp 2) = .pointer (some ⟨w.heap.size, 0, none⟩) := hF.at 2 (by kernel_rfl)
    exact rop_ld _ _ rfl e2 (run_loadAt_mid _ _ _ _ _ _ (below_range hB la ra) Tryd.underlying31 rfl (sum_info' ha)) (wanted_none rfl) (hK _ _ (le8_refl _) rfl)
  · intro ac w' hF hL hP hU K hK
    have hB := below_undrew hL
    have e5 : ac.eval (.tmp 5) = sumV a := hP 0 (by kernel_rfl)
    refine rop_call 37 _ _ rfl #[sumV a] (by simp [e5]) (by kernel_rfl) (wanted_none rfl) ?_
    refine (rbytes_any a w' ha).mono ?_
    rintro e w2 ⟨rfl, hb⟩
    exact ⟨_, rfl, hK _ _ hb rfl⟩
  · intro ac w' hF hL hP hU K hK
    have hB := below_undrew hL
    have e6 : ac.eval (.tmp 6) = .string ⟨a.toArray⟩ := hP 1 (by kernel_rfl)
    exact rop_bin _ _ _ _ _ rfl rfl e6 (guard_str _ _ _ _ _ _ w') (add_str _ _ (by rw [sz1, sza]; decide) w') (wanted_none rfl) (hK _ _ (le8_refl _) rfl)
  · intro ac w' hF hL hP hU K hK
    have hB := below_undrew hL
    have e3 : ac.eval (.tmp 3) = .pointer (some ⟨w.heap.size + 1, 0, none⟩) := hF.at 3 (by kernel_rfl)
    exact rop_ld _ _ rfl e3 (run_loadAt_mid _ _ _ _ _ _ (below_range hB lb rb) Tryd.underlying31 rfl (sum_info' hb)) (wanted_none rfl) (hK _ _ (le8_refl _) rfl)
  · intro ac w' hF hL hP hU K hK
    have hB := below_undrew hL
    have e8 : ac.eval (.tmp 8) = sumV b := hP 3 (by kernel_rfl)
    refine rop_call 37 _ _ rfl #[sumV b] (by simp [e8]) (by kernel_rfl) (wanted_none rfl) ?_
    refine (rbytes_any b w' hb).mono ?_
    rintro e w2 ⟨rfl, hb⟩
    exact ⟨_, rfl, hK _ _ hb rfl⟩
  · intro ac w' hF hL hP hU K hK
    have hB := below_undrew hL
    have e7 : ac.eval (.tmp 7) = .string (⟨#[1]⟩ ++ ⟨a.toArray⟩) := hP 2 (by kernel_rfl)
    have e9 : ac.eval (.tmp 9) = .string ⟨b.toArray⟩ := hP 4 (by kernel_rfl)
    exact rop_bin _ _ _ _ _ rfl e7 e9 (guard_str _ _ _ _ _ _ w') (add_str _ _ (by rw [ByteArray.size_append, sz1, sza, szb]; decide) w') (wanted_none rfl) (hK _ _ (le8_refl _) rfl)
  · intro ac w' hF hL hP hU K hK
    have hB := below_undrew hL
    have e10 : ac.eval (.tmp 10) = .string (⟨#[1]⟩ ++ ⟨a.toArray⟩ ++ ⟨b.toArray⟩) := hP 5 (by kernel_rfl)
    exact rop_assign _ rfl e10 (wanted_none rfl) (hK _ _ (le8_refl _) rfl)
  · intro ac w' hF hB hT
    have e4 : ac.eval (.tmp 4) = .string (⟨#[1]⟩ ++ ⟨a.toArray⟩ ++ ⟨b.toArray⟩) := hT 6 (by decide)
    rw [hF.setsG [5, 6, 7, 8, 9, 10, 4] (by kernel_rfl)]
    simp only [List.foldl_cons, List.foldl_nil, List.setIfInBounds_toArray, List.set_cons_succ, List.set_cons_zero, e4]
    generalize ac.eval (.tmp 5) = u5
    generalize ac.eval (.tmp 6) = u6
    generalize ac.eval (.tmp 7) = u7
    generalize ac.eval (.tmp 8) = u8
    generalize ac.eval (.tmp 9) = u9
    generalize ac.eval (.tmp 10) = u10
    clear e4 hT hF ac
    rw [pre_bytes]
    go_wp2
    go_ret
    exact ⟨rfl, Hb0.out.trans (hB.mono (by omega))⟩
set_option maxHeartbeats 1000000 in
set_option maxRecDepth 100000 in
theorem rleafNode_any (a b : List UInt8) (ha : a.length = 32) (hb : b.length = 32) (w : World) :
    Calls Tryd.prog 26 #[sumV a, sumV b] w fun e w' => e = .returned (sumV (Tree.node a b)) ∧ Below w.heap.size w w' := by
  obtain ⟨D, hD⟩ : ∃ D, D = Tree.node a b := ⟨_, rfl⟩
  have hDl : D.length = 32 := by rw [hD]; exact Tree.node_length _ _
  rw [← hD]
  have HD := Lib.hid hD
  have HDl := Lib.hid hDl
  obtain ⟨w0, hw0⟩ : ∃ w0, w0 = ((w.alloc (.cells (a.map u8V).toArray 31)).alloc (.cells (b.map u8V).toArray 31)).alloc zSum := ⟨_, rfl⟩
  have b0 : Below w.heap.size w w0 := by rw [hw0]; exact (((Below.refl _ _).alloc (Nat.le_refl _) _).alloc (by simp) _).alloc (by simp; omega) _
  have z0 : w0.heap[w.heap.size + 2]? = some (.cells ((List.replicate 32 (0 : UInt8)).map u8V).toArray 31 (0, 0)) := by rw [hw0]; have := heap_alloc_last ((w.alloc (.cells (a.map u8V).toArray 31)).alloc (.cells (b.map u8V).toArray 31)) zSum; rw [World.size_alloc, World.size_alloc] at this; exact this
  have Hz0 := Lib.hid z0
  have l0 : w.heap.size + 2 < w0.heap.size := by rw [hw0]; simp

  have rb : w0.rangeAt (w.heap.size + 1) 0 (b.map u8V) := by
    rw [hw0]
    have := range_box (w.alloc (.cells (a.map u8V).toArray 31)) (b.map u8V) 31
    rw [World.size_alloc] at this
    exact below_range ((Below.refl _ _).alloc (Nat.le_refl _) _) (by simp) this
  have ra : w0.rangeAt w.heap.size 0 (a.map u8V) := by
    rw [hw0]
    exact below_range (((Below.refl _ _).alloc (Nat.le_refl _) _).alloc (by simp) _) (by simp) (range_box w (a.map u8V) 31)
  obtain ⟨T, hT⟩ : ∃ T : ByteArray, T = ⟨(Tree.pre a b).toArray⟩ := ⟨_, rfl⟩
  have hTl : T.data.toList = Tree.pre a b := by rw [hT]
  have hpl := pre_size a b ha hb
  have hp : ∀ u, Calls Tryd.prog 48 #[sumV a, sumV b] u fun e w' => e = .returned (.string T) ∧ Below u.heap.size u w' := fun u => by rw [hT]; exact rleafPre_any a b ha hb u
  have hc : ∀ u, Below w0.heap.size w0 u → Calls Tryd.prog 32 #[.string T] u fun e w' => e = .returned (sumV D) ∧ Below u.heap.size u w' := fun u hu => by
    rw [hD]
    exact rof_any T _ hTl u (by omega)
  unfold sumV at hp
  have HP := Lib.hid hp
  have HC := Lib.hid hc
  have Ha := Lib.hid ha
  have Hb := Lib.hid hb
  have s0 : w0.heap.size = w.heap.size + 3 := by rw [hw0]; simp
  clear hT hTl hpl hp hc hD hDl z0 ha hb
  unfold sumV
  go_enter Tryd.func26, Tryd.ntmps26
  go_upto_region 1 with (fail)
  change Code.wp _ _ _ _ (((w.alloc (.cells (a.map u8V).toArray 31)).alloc (.cells (b.map u8V).toArray 31)).alloc zSum)
  rw [← hw0]
  clear hw0
  go_wp2_with (first
    | refine wpList_load_mid rfl 31 (.tmp 2) rfl w.heap.size 0 rfl (a.map u8V) _ ra Tryd.underlying31 rfl (sum_info' Ha.out) ?_
    | refine wpList_load_mid rfl 31 (.tmp 3) rfl (w.heap.size + 1) 0 rfl (b.map u8V) _ rb Tryd.underlying31 rfl (sum_info' Hb.out) ?_
    | (go_at_call 48; ((with_reducible refine (HP.out _).mono ?_); rintro e w1 ⟨rfl, b1⟩))
    | (go_at_call 32; ((with_reducible refine (HC.out w1 b1).mono ?_); rintro e w2 ⟨rfl, b2⟩; have bb := below_step (below_step b0 (Nat.le_refl _) b1) (Nat.le_refl _) b2; have z2 := Lib.hid ((b2.block _ (Nat.lt_of_lt_of_le l0 b1.size)).trans ((b1.block _ l0).trans Hz0.out))))
    | refine wpList_store_mid rfl 31 (.tmp 4) (.tmp 8) rfl (w.heap.size + 2) 0 (D.map u8V).toArray rfl rfl (sum_there z2.out HDl.out) (sum_info HDl.out) (sum_one D) ?_)
  exact bodyPost_ret (v := sumV D) (results_cell (t := 4) (ty := 31) (b := w.heap.size + 2) (cs := D.map u8V) rfl _ _ _ rfl (sum_range z2.out HDl.out) Tryd.underlying31 rfl (sum_info' HDl.out)) rfl ⟨rfl, below_setCells (by omega) _ _ _ bb⟩
end Go.Proofs.YtgiakpnkidblpaaDoor
