/-
  Several texts in one (LeafFn, LeafRoot, LeafAbove, LeafLevels, RLevels, LeafAwake).
-/
import Derived.Test.YtollcdalokhjaaaDoorMLeafA
import Derived.Test.YtollcdalokhjaaaDoorMGen
import Derived.Test.YtollcdalokhjaaaDoorMShaB
import Derived.Test.YtollcdalokhjaaaDoorMShaR
import Derived.Test.YtollcdalokhjaaaDoorMShaA
/-! ## Package leaf: Leaf, Empty, Preimage, Node; the document's own (scriniumref09). -/
namespace Go.Proofs.YtollcdalokhjaaaDoor
open Go.RowKit

/-- The cells of a new variable that is a hash. -/
abbrev zSum : Obj := .cells ((List.replicate 32 (0 : UInt8)).map u8V).toArray 33
theorem pre_bytes (a b : List UInt8) : ((⟨#[1]⟩ : ByteArray) ++ ⟨a.toArray⟩ ++ ⟨b.toArray⟩) = ⟨(Tree.pre a b).toArray⟩ := by
  apply ByteArray.ext
  simp [ByteArray.data_append, Tree.pre]
theorem pre_size (a b : List UInt8) (ha : a.length = 32) (hb : b.length = 32) : (Tree.pre a b).length = 65 := by simp [Tree.pre, ha, hb]
set_option maxHeartbeats 1000000 in
set_option maxRecDepth 100000 in
theorem leafLeaf_any (S : ByteArray) (s : List UInt8) (hS : S.data.toList = s) (w : World) (hK : KT w) (hl : s.length < 288230376151711744) :
    Calls Tryd.prog 62 #[.string S] w fun e w' => e = .returned (sumV (Tree.leafH s)) ∧ Below w.heap.size w w' := by
  obtain ⟨D, hD⟩ : ∃ D, D = Tree.leafH s := ⟨_, rfl⟩
  have hDl : D.length = 32 := by rw [hD]; exact Tree.leafH_length _
  rw [← hD]
  have HD := Lib.hid hD
  have HDl := Lib.hid hDl
  obtain ⟨w0, hw0⟩ : ∃ w0, w0 = w.alloc zSum := ⟨_, rfl⟩
  have b0 : Below w.heap.size w w0 := by rw [hw0]; exact (Below.refl _ _).alloc (Nat.le_refl _) _
  have z0 : w0.heap[w.heap.size]? = some (.cells ((List.replicate 32 (0 : UInt8)).map u8V).toArray 33 (0, 0)) := by rw [hw0]; exact heap_alloc_last _ _
  have Hz0 := Lib.hid z0
  have l0 : w.heap.size < w0.heap.size := by rw [hw0]; simp
  have hc := of_two ⟨#[0]⟩ S (0 :: s) (by rw [hS]; rfl) w0 (hK.old b0) (by simp; omega)
  change Calls _ _ _ _ fun e w' => e = .returned (sumV (Tree.leafH s)) ∧ _ at hc
  rw [← hD] at hc
  have HC := Lib.hid hc
  clear hD hDl z0 hc hS hl
  go_enter Tryd.func62, Tryd.ntmps62
  go_upto_region 1 with (fail)
  change Code.wp _ _ _ _ (w.alloc zSum)
  rw [← hw0]
  clear hw0
  go_wp2_with (first
    | (go_at_call 54; ((with_reducible refine HC.out.mono ?_); rintro e w2 ⟨rfl, b2⟩; have z2 := Lib.hid ((b2.block _ l0).trans Hz0.out)))
    | refine wpList_store_mid rfl 33 (.tmp 2) (.tmp 5) rfl w.heap.size 0 (D.map u8V).toArray rfl rfl (sum_there z2.out HDl.out) (sum_info HDl.out) (sum_one D) ?_)
  exact bodyPost_ret (v := sumV D) (results_cell (t := 2) (ty := 33) (b := w.heap.size) (cs := D.map u8V) rfl _ _ _ rfl (sum_range z2.out HDl.out) Tryd.underlying33 rfl (sum_info' HDl.out)) rfl ⟨rfl, below_setCells (Nat.le_refl _) _ _ _ (below_step b0 (Nat.le_refl _) b2)⟩

set_option maxHeartbeats 1000000 in
set_option maxRecDepth 100000 in
theorem leafEmpty_any (w : World) (hK : KT w) :
    Calls Tryd.prog 35 #[] w fun e w' => e = .returned (sumV (Tree.empty)) ∧ Below w.heap.size w w' := by
  obtain ⟨D, hD⟩ : ∃ D, D = Tree.empty := ⟨_, rfl⟩
  have hDl : D.length = 32 := by rw [hD]; exact Tree.empty_length
  rw [← hD]
  have HD := Lib.hid hD
  have HDl := Lib.hid hDl
  obtain ⟨w0, hw0⟩ : ∃ w0, w0 = w.alloc zSum := ⟨_, rfl⟩
  have b0 : Below w.heap.size w w0 := by rw [hw0]; exact (Below.refl _ _).alloc (Nat.le_refl _) _
  have z0 : w0.heap[w.heap.size]? = some (.cells ((List.replicate 32 (0 : UInt8)).map u8V).toArray 33 (0, 0)) := by rw [hw0]; exact heap_alloc_last _ _
  have Hz0 := Lib.hid z0
  have l0 : w.heap.size < w0.heap.size := by rw [hw0]; simp
  have hc := of_nothing w0 (hK.old b0)
  change Calls _ _ _ _ fun e w' => e = .returned (sumV Tree.empty) ∧ _ at hc
  rw [← hD] at hc
  have HC := Lib.hid hc
  clear hD hDl z0 hc 
  go_enter Tryd.func35, Tryd.ntmps35
  go_upto_region 1 with (fail)
  change Code.wp _ _ _ _ (w.alloc zSum)
  rw [← hw0]
  clear hw0
  go_wp2_with (first
    | (go_at_call 54; ((with_reducible refine HC.out.mono ?_); rintro e w2 ⟨rfl, b2⟩; have z2 := Lib.hid ((b2.block _ l0).trans Hz0.out)))
    | refine wpList_store_mid rfl 33 (.tmp 0) (.tmp 1) rfl w.heap.size 0 (D.map u8V).toArray rfl rfl (sum_there z2.out HDl.out) (sum_info HDl.out) (sum_one D) ?_)
  exact bodyPost_ret (v := sumV D) (results_cell (t := 0) (ty := 33) (b := w.heap.size) (cs := D.map u8V) rfl _ _ _ rfl (sum_range z2.out HDl.out) Tryd.underlying33 rfl (sum_info' HDl.out)) rfl ⟨rfl, below_setCells (Nat.le_refl _) _ _ _ (below_step b0 (Nat.le_refl _) b2)⟩

set_option maxHeartbeats 1000000 in
set_option maxRecDepth 100000 in
theorem leafPre_any (a b : List UInt8) (ha : a.length = 32) (hb : b.length = 32) (w : World) :
    Calls Tryd.prog 79 #[sumV a, sumV b] w fun e w' => e = .returned (.string ⟨(Tree.pre a b).toArray⟩) ∧ Below w.heap.size w w' := by
  unfold sumV
  obtain ⟨w0, hw0⟩ : ∃ w0, w0 = (w.alloc (.cells (a.map u8V).toArray 33)).alloc (.cells (b.map u8V).toArray 33) := ⟨_, rfl⟩
  have b0 : Below w.heap.size w w0 := by rw [hw0]; exact ((Below.refl _ _).alloc (Nat.le_refl _) _).alloc (by simp) _
  have s0 : w0.heap.size = w.heap.size + 2 := by rw [hw0]; simp
  have la : w.heap.size < w0.heap.size := by omega
  have lb : w.heap.size + 1 < w0.heap.size := by omega
  have rb : w0.rangeAt (w.heap.size + 1) 0 (b.map u8V) := by
    rw [hw0]
    have := range_box (w.alloc (.cells (a.map u8V).toArray 33)) (b.map u8V) 33
    rwa [World.size_alloc] at this
  have ra : w0.rangeAt w.heap.size 0 (a.map u8V) := by
    rw [hw0]
    exact below_range ((Below.refl _ _).alloc (Nat.le_refl _) _) (by simp) (range_box w (a.map u8V) 33)
  have sz1 : (⟨#[1]⟩ : ByteArray).size = 1 := rfl
  have sza : (⟨a.toArray⟩ : ByteArray).size = 32 := by rw [Lib.size_eq]; exact ha
  have szb : (⟨b.toArray⟩ : ByteArray).size = 32 := by rw [Lib.size_eq]; exact hb
  have Hb0 := Lib.hid b0
  go_enter Tryd.func79, Tryd.ntmps79
  go_upto_region 1 with (fail)
  rw [← hw0]
  clear hw0
  try simp only [Act.put]
  refine wp_region_tab [RT.is (sumV a), RT.is (.string ⟨a.toArray⟩), RT.is (.string (⟨#[1]⟩ ++ ⟨a.toArray⟩)), RT.is (sumV b), RT.is (.string ⟨b.toArray⟩), RT.is (.string (⟨#[1]⟩ ++ ⟨a.toArray⟩ ++ ⟨b.toArray⟩)), RT.is (.string (⟨#[1]⟩ ++ ⟨a.toArray⟩ ++ ⟨b.toArray⟩))] (by kernel_rfl) (by kernel_rfl) (by kernel_rfl) (by kernel_rfl) ⟨?_, ?_, ?_, ?_, ?_, ?_, ?_, trivial⟩ ?_
  · intro ac w' hF hL hP hU K hK
    have hB := below_undrew hL
    have e2 : ac.eval (.tmp 2) = .pointer (some ⟨w.heap.size, 0, none⟩) := hF.at 2 (by kernel_rfl)
    exact rop_ld _ _ rfl e2 (run_loadAt_mid _ _ _ _ _ _ (below_range hB la ra) Tryd.underlying33 rfl (sum_info' ha)) (wanted_none rfl) (hK _ _ (le8_refl _) rfl)
  · intro ac w' hF hL hP hU K hK
    have hB := below_undrew hL
    have e5 : ac.eval (.tmp 5) = sumV a := hP 0 (by kernel_rfl)
    refine rop_call 94 _ _ rfl #[sumV a] (by simp [e5]) (by kernel_rfl) (wanted_none rfl) ?_
    refine (bytes_any a w' ha).mono ?_
    rintro e w2 ⟨rfl, hb⟩
    exact ⟨_, rfl, hK _ _ hb rfl⟩
  · intro ac w' hF hL hP hU K hK
    have hB := below_undrew hL
    have e6 : ac.eval (.tmp 6) = .string ⟨a.toArray⟩ := hP 1 (by kernel_rfl)
    exact rop_bin _ _ _ _ _ rfl rfl e6 (guard_str _ _ _ _ _ _ w') (add_str _ _ (by rw [sz1, sza]; decide) w') (wanted_none rfl) (hK _ _ (le8_refl _) rfl)
  · intro ac w' hF hL hP hU K hK
    have hB := below_undrew hL
    have e3 : ac.eval (.tmp 3) = .pointer (some ⟨w.heap.size + 1, 0, none⟩) := hF.at 3 (by kernel_rfl)
    exact rop_ld _ _ rfl e3 (run_loadAt_mid _ _ _ _ _ _ (below_range hB lb rb) Tryd.underlying33 rfl (sum_info' hb)) (wanted_none rfl) (hK _ _ (le8_refl _) rfl)
  · intro ac w' hF hL hP hU K hK
    have hB := below_undrew hL
    have e8 : ac.eval (.tmp 8) = sumV b := hP 3 (by kernel_rfl)
    refine rop_call 94 _ _ rfl #[sumV b] (by simp [e8]) (by kernel_rfl) (wanted_none rfl) ?_
    refine (bytes_any b w' hb).mono ?_
    rintro e w2 ⟨rfl, hb⟩
    exact ⟨_, rfl, hK _ _ hb rfl⟩
  · intro ac w' hF hL hP hU K hK
    have hB := below_undrew hL
    have e7 : ac.eval (.tmp 7) = .string (⟨#[1]⟩ ++ ⟨a.toArray⟩) := hP 2 (by kernel_rfl)
    have e9 : ac.eval (.tmp 9) = .string ⟨b.toArray⟩ := hP 4 (by kernel_rfl)
    exact rop_bin _ _ _ _ _ rfl e7 e9 (guard_str _ _ _ _ _ _ w') (add_str _ _ (by rw [ByteArray.size_append, sz1, sza, szb]; decide) w') (wanted_none rfl) (hK _ _ (le8_refl _) rfl)
  · intro ac w' hF hL hP hU K hK
    have hB := below_undrew hL
    have e10 : ac.eval (.tmp 10) = .string (⟨#[1]⟩ ++ ⟨a.toArray⟩ ++ ⟨b.toArray⟩) := hP 5 (by kernel_rfl)
    exact rop_assign _ rfl e10 (wanted_none rfl) (hK _ _ (le8_refl _) rfl)
  · intro ac w' hF hB hT
    have e4 : ac.eval (.tmp 4) = .string (⟨#[1]⟩ ++ ⟨a.toArray⟩ ++ ⟨b.toArray⟩) := hT 6 (by decide)
    rw [hF.setsG [5, 6, 7, 8, 9, 10, 4] (by kernel_rfl)]
    simp only [List.foldl_cons, List.foldl_nil, List.setIfInBounds_toArray, List.set_cons_succ, List.set_cons_zero, e4]
    generalize ac.eval (.tmp 5) = u5
    generalize ac.eval (.tmp 6) = u6
    generalize ac.eval (.tmp 7) = u7
    generalize ac.eval (.tmp 8) = u8
    generalize ac.eval (.tmp 9) = u9
    generalize ac.eval (.tmp 10) = u10
    clear e4 hT hF ac
    rw [pre_bytes]
    go_wp2
    go_ret
    exact ⟨rfl, Hb0.out.trans (hB.mono (by omega))⟩
set_option maxHeartbeats 1000000 in
set_option maxRecDepth 100000 in
theorem leafNode_any (a b : List UInt8) (ha : a.length = 32) (hb : b.length = 32) (w : World) (hK : KT w) :
    Calls Tryd.prog 57 #[sumV a, sumV b] w fun e w' => e = .returned (sumV (Tree.node a b)) ∧ Below w.heap.size w w' := by
  obtain ⟨D, hD⟩ : ∃ D, D = Tree.node a b := ⟨_, rfl⟩
  have hDl : D.length = 32 := by rw [hD]; exact Tree.node_length _ _
  rw [← hD]
  have HD := Lib.hid hD
  have HDl := Lib.hid hDl
  obtain ⟨w0, hw0⟩ : ∃ w0, w0 = ((w.alloc (.cells (a.map u8V).toArray 33)).alloc (.cells (b.map u8V).toArray 33)).alloc zSum := ⟨_, rfl⟩
  have b0 : Below w.heap.size w w0 := by rw [hw0]; exact (((Below.refl _ _).alloc (Nat.le_refl _) _).alloc (by simp) _).alloc (by simp; omega) _
  have z0 : w0.heap[w.heap.size + 2]? = some (.cells ((List.replicate 32 (0 : UInt8)).map u8V).toArray 33 (0, 0)) := by rw [hw0]; have := heap_alloc_last ((w.alloc (.cells (a.map u8V).toArray 33)).alloc (.cells (b.map u8V).toArray 33)) zSum; rw [World.size_alloc, World.size_alloc] at this; exact this
  have Hz0 := Lib.hid z0
  have l0 : w.heap.size + 2 < w0.heap.size := by rw [hw0]; simp

  have rb : w0.rangeAt (w.heap.size + 1) 0 (b.map u8V) := by
    rw [hw0]
    have := range_box (w.alloc (.cells (a.map u8V).toArray 33)) (b.map u8V) 33
    rw [World.size_alloc] at this
    exact below_range ((Below.refl _ _).alloc (Nat.le_refl _) _) (by simp) this
  have ra : w0.rangeAt w.heap.size 0 (a.map u8V) := by
    rw [hw0]
    exact below_range (((Below.refl _ _).alloc (Nat.le_refl _) _).alloc (by simp) _) (by simp) (range_box w (a.map u8V) 33)
  obtain ⟨T, hT⟩ : ∃ T : ByteArray, T = ⟨(Tree.pre a b).toArray⟩ := ⟨_, rfl⟩
  have hTl : T.data.toList = Tree.pre a b := by rw [hT]
  have hpl := pre_size a b ha hb
  have hp : ∀ u, Calls Tryd.prog 79 #[sumV a, sumV b] u fun e w' => e = .returned (.string T) ∧ Below u.heap.size u w' := fun u => by rw [hT]; exact leafPre_any a b ha hb u
  have hc : ∀ u, Below w0.heap.size w0 u → Calls Tryd.prog 54 #[.slice (some ⟨u.heap.size, 0, none⟩) 1 1] (u.alloc (.cells #[.string T] 9)) fun e w' => e = .returned (sumV D) ∧ Below u.heap.size u w' := fun u hu => by
    rw [hD]
    exact of_one T _ hTl u ((hK.old b0).old hu) (by omega)
  unfold sumV at hp
  have HP := Lib.hid hp
  have HC := Lib.hid hc
  have Ha := Lib.hid ha
  have Hb := Lib.hid hb
  have s0 : w0.heap.size = w.heap.size + 3 := by rw [hw0]; simp
  clear hT hTl hpl hp hc hD hDl z0 ha hb
  unfold sumV
  go_enter Tryd.func57, Tryd.ntmps57
  go_upto_region 1 with (fail)
  change Code.wp _ _ _ _ (((w.alloc (.cells (a.map u8V).toArray 33)).alloc (.cells (b.map u8V).toArray 33)).alloc zSum)
  rw [← hw0]
  clear hw0
  go_wp2_with (first
    | refine wpList_load_mid rfl 33 (.tmp 2) rfl w.heap.size 0 rfl (a.map u8V) _ ra Tryd.underlying33 rfl (sum_info' Ha.out) ?_
    | refine wpList_load_mid rfl 33 (.tmp 3) rfl (w.heap.size + 1) 0 rfl (b.map u8V) _ rb Tryd.underlying33 rfl (sum_info' Hb.out) ?_
    | (go_at_call 79; ((with_reducible refine (HP.out _).mono ?_); rintro e w1 ⟨rfl, b1⟩))
    | (go_at_call 54; ((with_reducible refine (HC.out w1 b1).mono ?_); rintro e w2 ⟨rfl, b2⟩; have bb := below_step (below_step b0 (Nat.le_refl _) b1) (Nat.le_refl _) b2; have z2 := Lib.hid ((b2.block _ (Nat.lt_of_lt_of_le l0 b1.size)).trans ((b1.block _ l0).trans Hz0.out))))
    | refine wpList_store_mid rfl 33 (.tmp 4) (.tmp 9) rfl (w.heap.size + 2) 0 (D.map u8V).toArray rfl rfl (sum_there z2.out HDl.out) (sum_info HDl.out) (sum_one D) ?_)
  exact bodyPost_ret (v := sumV D) (results_cell (t := 4) (ty := 33) (b := w.heap.size + 2) (cs := D.map u8V) rfl _ _ _ rfl (sum_range z2.out HDl.out) Tryd.underlying33 rfl (sum_info' HDl.out)) rfl ⟨rfl, below_setCells (by omega) _ _ _ bb⟩
set_option maxHeartbeats 1000000 in
set_option maxRecDepth 100000 in
theorem rleafPre_any (a b : List UInt8) (ha : a.length = 32) (hb : b.length = 32) (w : World) :
    Calls Tryd.prog 66 #[sumV a, sumV b] w fun e w' => e = .returned (.string ⟨(Tree.pre a b).toArray⟩) ∧ Below w.heap.size w w' := by
  unfold sumV
  obtain ⟨w0, hw0⟩ : ∃ w0, w0 = (w.alloc (.cells (a.map u8V).toArray 33)).alloc (.cells (b.map u8V).toArray 33) := ⟨_, rfl⟩
  have b0 : Below w.heap.size w w0 := by rw [hw0]; exact ((Below.refl _ _).alloc (Nat.le_refl _) _).alloc (by simp) _
  have s0 : w0.heap.size = w.heap.size + 2 := by rw [hw0]; simp
  have la : w.heap.size < w0.heap.size := by omega
  have lb : w.heap.size + 1 < w0.heap.size := by omega
  have rb : w0.rangeAt (w.heap.size + 1) 0 (b.map u8V) := by
    rw [hw0]
    have := range_box (w.alloc (.cells (a.map u8V).toArray 33)) (b.map u8V) 33
    rwa [World.size_alloc] at this
  have ra : w0.rangeAt w.heap.size 0 (a.map u8V) := by
    rw [hw0]
    exact below_range ((Below.refl _ _).alloc (Nat.le_refl _) _) (by simp) (range_box w (a.map u8V) 33)
  have sz1 : (⟨#[1]⟩ : ByteArray).size = 1 := rfl
  have sza : (⟨a.toArray⟩ : ByteArray).size = 32 := by rw [Lib.size_eq]; exact ha
  have szb : (⟨b.toArray⟩ : ByteArray).size = 32 := by rw [Lib.size_eq]; exact hb
  have Hb0 := Lib.hid b0
  go_enter Tryd.func66, Tryd.ntmps66
  go_upto_region 1 with (fail)
  rw [← hw0]
  clear hw0
  try simp only [Act.put]
  refine wp_region_tab [RT.is (sumV a), RT.is (.string ⟨a.toArray⟩), RT.is (.string (⟨#[1]⟩ ++ ⟨a.toArray⟩)), RT.is (sumV b), RT.is (.string ⟨b.toArray⟩), RT.is (.string (⟨#[1]⟩ ++ ⟨a.toArray⟩ ++ ⟨b.toArray⟩)), RT.is (.string (⟨#[1]⟩ ++ ⟨a.toArray⟩ ++ ⟨b.toArray⟩))] (by kernel_rfl) (by kernel_rfl) (by kernel_rfl) (by kernel_rfl) ⟨?_, ?_, ?_, ?_, ?_, ?_, ?_, trivial⟩ ?_
  · intro ac w' hF hL hP hU K hK
    have hB := below_undrew hL
    have e2 : ac.eval (.tmp 2) = .pointer (some ⟨w.heap.size, 0, none⟩) := hF.at 2 (by kernel_rfl)
    exact rop_ld _ _ rfl e2 (run_loadAt_mid _ _ _ _ _ _ (below_range hB la ra) Tryd.underlying33 rfl (sum_info' ha)) (wanted_none rfl) (hK _ _ (le8_refl _) rfl)
  · intro ac w' hF hL hP hU K hK
    have hB := below_undrew hL
    have e5 : ac.eval (.tmp 5) = sumV a := hP 0 (by kernel_rfl)
    refine rop_call 74 _ _ rfl #[sumV a] (by simp [e5]) (by kernel_rfl) (wanted_none rfl) ?_
    refine (rbytes_any a w' ha).mono ?_
    rintro e w2 ⟨rfl, hb⟩
    exact ⟨_, rfl, hK _ _ hb rfl⟩
  · intro ac w' hF hL hP hU K hK
    have hB := below_undrew hL
    have e6 : ac.eval (.tmp 6) = .string ⟨a.toArray⟩ := hP 1 (by kernel_rfl)
    exact rop_bin _ _ _ _ _ rfl rfl e6 (guard_str _ _ _ _ _ _ w') (add_str _ _ (by rw [sz1, sza]; decide) w') (wanted_none rfl) (hK _ _ (le8_refl _) rfl)
  · intro ac w' hF hL hP hU K hK
    have hB := below_undrew hL
    have e3 : ac.eval (.tmp 3) = .pointer (some ⟨w.heap.size + 1, 0, none⟩) := hF.at 3 (by kernel_rfl)
    exact rop_ld _ _ rfl e3 (run_loadAt_mid _ _ _ _ _ _ (below_range hB lb rb) Tryd.underlying33 rfl (sum_info' hb)) (wanted_none rfl) (hK _ _ (le8_refl _) rfl)
  · intro ac w' hF hL hP hU K hK
    have hB := below_undrew hL
    have e8 : ac.eval (.tmp 8) = sumV b := hP 3 (by kernel_rfl)
    refine rop_call 74 _ _ rfl #[sumV b] (by simp [e8]) (by kernel_rfl) (wanted_none rfl) ?_
    refine (rbytes_any b w' hb).mono ?_
    rintro e w2 ⟨rfl, hb⟩
    exact ⟨_, rfl, hK _ _ hb rfl⟩
  · intro ac w' hF hL hP hU K hK
    have hB := below_undrew hL
    have e7 : ac.eval (.tmp 7) = .string (⟨#[1]⟩ ++ ⟨a.toArray⟩) := hP 2 (by kernel_rfl)
    have e9 : ac.eval (.tmp 9) = .string ⟨b.toArray⟩ := hP 4 (by kernel_rfl)
    exact rop_bin _ _ _ _ _ rfl e7 e9 (guard_str _ _ _ _ _ _ w') (add_str _ _ (by rw [ByteArray.size_append, sz1, sza, szb]; decide) w') (wanted_none rfl) (hK _ _ (le8_refl _) rfl)
  · intro ac w' hF hL hP hU K hK
    have hB := below_undrew hL
    have e10 : ac.eval (.tmp 10) = .string (⟨#[1]⟩ ++ ⟨a.toArray⟩ ++ ⟨b.toArray⟩) := hP 5 (by kernel_rfl)
    exact rop_assign _ rfl e10 (wanted_none rfl) (hK _ _ (le8_refl _) rfl)
  · intro ac w' hF hB hT
    have e4 : ac.eval (.tmp 4) = .string (⟨#[1]⟩ ++ ⟨a.toArray⟩ ++ ⟨b.toArray⟩) := hT 6 (by decide)
    rw [hF.setsG [5, 6, 7, 8, 9, 10, 4] (by kernel_rfl)]
    simp only [List.foldl_cons, List.foldl_nil, List.setIfInBounds_toArray, List.set_cons_succ, List.set_cons_zero, e4]
    generalize ac.eval (.tmp 5) = u5
    generalize ac.eval (.tmp 6) = u6
    generalize ac.eval (.tmp 7) = u7
    generalize ac.eval (.tmp 8) = u8
    generalize ac.eval (.tmp 9) = u9
    generalize ac.eval (.tmp 10) = u10
    clear e4 hT hF ac
    rw [pre_bytes]
    go_wp2
    go_ret
    exact ⟨rfl, Hb0.out.trans (hB.mono (by omega))⟩
set_option maxHeartbeats 1000000 in
set_option maxRecDepth 100000 in
theorem rleafNode_any (a b : List UInt8) (ha : a.length = 32) (hb : b.length = 32) (w : World) :
    Calls Tryd.prog 44 #[sumV a, sumV b] w fun e w' => e = .returned (sumV (Tree.node a b)) ∧ Below w.heap.size w w' := by
  obtain ⟨D, hD⟩ : ∃ D, D = Tree.node a b := ⟨_, rfl⟩
  have hDl : D.length = 32 := by rw [hD]; exact Tree.node_length _ _
  rw [← hD]
  have HD := Lib.hid hD
  have HDl := Lib.hid hDl
  obtain ⟨w0, hw0⟩ : ∃ w0, w0 = ((w.alloc (.cells (a.map u8V).toArray 33)).alloc (.cells (b.map u8V).toArray 33)).alloc zSum := ⟨_, rfl⟩
  have b0 : Below w.heap.size w w0 := by rw [hw0]; exact (((Below.refl _ _).alloc (Nat.le_refl _) _).alloc (by simp) _).alloc (by simp; omega) _
  have z0 : w0.heap[w.heap.size + 2]? = some (.cells ((List.replicate 32 (0 : UInt8)).map u8V).toArray 33 (0, 0)) := by rw [hw0]; have := heap_alloc_last ((w.alloc (.cells (a.map u8V).toArray 33)).alloc (.cells (b.map u8V).toArray 33)) zSum; rw [World.size_alloc, World.size_alloc] at this; exact this
  have Hz0 := Lib.hid z0
  have l0 : w.heap.size + 2 < w0.heap.size := by rw [hw0]; simp

  have rb : w0.rangeAt (w.heap.size + 1) 0 (b.map u8V) := by
    rw [hw0]
    have := range_box (w.alloc (.cells (a.map u8V).toArray 33)) (b.map u8V) 33
    rw [World.size_alloc] at this
    exact below_range ((Below.refl _ _).alloc (Nat.le_refl _) _) (by simp) this
  have ra : w0.rangeAt w.heap.size 0 (a.map u8V) := by
    rw [hw0]
    exact below_range (((Below.refl _ _).alloc (Nat.le_refl _) _).alloc (by simp) _) (by simp) (range_box w (a.map u8V) 33)
  obtain ⟨T, hT⟩ : ∃ T : ByteArray, T = ⟨(Tree.pre a b).toArray⟩ := ⟨_, rfl⟩
  have hTl : T.data.toList = Tree.pre a b := by rw [hT]
  have hpl := pre_size a b ha hb
  have hp : ∀ u, Calls Tryd.prog 66 #[sumV a, sumV b] u fun e w' => e = .returned (.string T) ∧ Below u.heap.size u w' := fun u => by rw [hT]; exact rleafPre_any a b ha hb u
  have hc : ∀ u, Below w0.heap.size w0 u → Calls Tryd.prog 42 #[.string T] u fun e w' => e = .returned (sumV D) ∧ Below u.heap.size u w' := fun u hu => by
    rw [hD]
    exact rof_any T _ hTl u (by omega)
  unfold sumV at hp
  have HP := Lib.hid hp
  have HC := Lib.hid hc
  have Ha := Lib.hid ha
  have Hb := Lib.hid hb
  have s0 : w0.heap.size = w.heap.size + 3 := by rw [hw0]; simp
  clear hT hTl hpl hp hc hD hDl z0 ha hb
  unfold sumV
  go_enter Tryd.func44, Tryd.ntmps44
  go_upto_region 1 with (fail)
  change Code.wp _ _ _ _ (((w.alloc (.cells (a.map u8V).toArray 33)).alloc (.cells (b.map u8V).toArray 33)).alloc zSum)
  rw [← hw0]
  clear hw0
  go_wp2_with (first
    | refine wpList_load_mid rfl 33 (.tmp 2) rfl w.heap.size 0 rfl (a.map u8V) _ ra Tryd.underlying33 rfl (sum_info' Ha.out) ?_
    | refine wpList_load_mid rfl 33 (.tmp 3) rfl (w.heap.size + 1) 0 rfl (b.map u8V) _ rb Tryd.underlying33 rfl (sum_info' Hb.out) ?_
    | (go_at_call 66; ((with_reducible refine (HP.out _).mono ?_); rintro e w1 ⟨rfl, b1⟩))
    | (go_at_call 42; ((with_reducible refine (HC.out w1 b1).mono ?_); rintro e w2 ⟨rfl, b2⟩; have bb := below_step (below_step b0 (Nat.le_refl _) b1) (Nat.le_refl _) b2; have z2 := Lib.hid ((b2.block _ (Nat.lt_of_lt_of_le l0 b1.size)).trans ((b1.block _ l0).trans Hz0.out))))
    | refine wpList_store_mid rfl 33 (.tmp 4) (.tmp 8) rfl (w.heap.size + 2) 0 (D.map u8V).toArray rfl rfl (sum_there z2.out HDl.out) (sum_info HDl.out) (sum_one D) ?_)
  exact bodyPost_ret (v := sumV D) (results_cell (t := 4) (ty := 33) (b := w.heap.size + 2) (cs := D.map u8V) rfl _ _ _ rfl (sum_range z2.out HDl.out) Tryd.underlying33 rfl (sum_info' HDl.out)) rfl ⟨rfl, below_setCells (by omega) _ _ _ bb⟩
end Go.Proofs.YtollcdalokhjaaaDoor
/-! ## Package leaf: Root; the document's own. -/
namespace Go.Proofs.YtollcdalokhjaaaDoor
open Go.RowKit

theorem index_sums (b o n cap k : Nat) (h : k < n) (w : World) : (Instr.indexAt 27 (.slice (some ⟨b, o, none⟩) n cap) (.int .i64 (k : Int))).run Tryd.prog w = .ok (.pointer (some ⟨b, o + k * 32, none⟩)) w := by
  go_simp
set_option maxHeartbeats 2000000 in
set_option maxRecDepth 100000 in
theorem leafRoot_any (n : Nat) : ∀ (l : Hs) (v : Value) (w : World), l.length = n → n ≤ 1000000 → Sums w v l → KT w → 
    Calls Tryd.prog 53 #[v] w fun e w' => e = .returned (sumV (Tree.root l)) ∧ Below w.heap.size w w' := by
  induction n using Nat.strongRecOn with
  | _ n ih =>
  intro l v w hlen hn6 hv hK
  obtain ⟨va, cap, rfl, hlc, hcap⟩ := hv.slice
  by_cases h0 : l.length = 0
  · obtain rfl : l = [] := List.eq_nil_of_length_eq_zero h0
    simp only [List.length_nil] at hv hlc ⊢
    obtain ⟨D, hD⟩ : ∃ D, D = Tree.root [] := ⟨_, rfl⟩
    have hDl : D.length = 32 := by rw [hD]; exact Tree.empty_length
    rw [← hD]
    have HD := Lib.hid hD
    have HDl := Lib.hid hDl
    obtain ⟨w0, hw0⟩ : ∃ w0, w0 = w.alloc zSum := ⟨_, rfl⟩
    have b0 : Below w.heap.size w w0 := by rw [hw0]; exact (Below.refl _ _).alloc (Nat.le_refl _) _
    have z0 : w0.heap[w.heap.size]? = some (.cells ((List.replicate 32 (0 : UInt8)).map u8V).toArray 33 (0, 0)) := by rw [hw0]; exact heap_alloc_last _ _
    have Hz0 := Lib.hid z0
    have l0 : w.heap.size < w0.heap.size := by rw [hw0]; simp
    have hc : Calls Tryd.prog 35 #[] w0 fun e w' => e = .returned (sumV D) ∧ Below w0.heap.size w0 w' := by rw [hD]; exact leafEmpty_any w0 (hK.old b0)
    have HC := Lib.hid hc
    clear hD hDl z0 hc hv ih hlen
    go_enter Tryd.func53, Tryd.ntmps53
    go_upto_region 1 with (fail)
    change Code.wp _ _ _ _ (w.alloc zSum)
    rw [← hw0]
    clear hw0
    go_wp2_with (first
      | (go_at_call 35; ((with_reducible refine HC.out.mono ?_); rintro e w2 ⟨rfl, b2⟩; have z2 := Lib.hid ((b2.block _ l0).trans Hz0.out)))
      | refine wpList_store_mid rfl 33 (.tmp 2) (.tmp 8) rfl w.heap.size 0 (D.map u8V).toArray rfl rfl (sum_there z2.out HDl.out) (sum_info HDl.out) (sum_one D) ?_)
    exact bodyPost_ret (v := sumV D) (results_cell (t := 2) (ty := 33) (b := w.heap.size) (cs := D.map u8V) rfl _ _ _ rfl (sum_range z2.out HDl.out) Tryd.underlying33 rfl (sum_info' HDl.out)) rfl ⟨rfl, below_setCells (Nat.le_refl _) _ _ _ (below_step b0 (Nat.le_refl _) b2)⟩

  by_cases h1 : l.length = 1
  · obtain ⟨x, rfl⟩ := List.length_eq_one_iff.1 h1
    simp only [List.length_singleton] at hv hlc ⊢
    obtain ⟨b, off, rfl, hb, -, hr⟩ := hv.at 0 (by simp)
    have hx : x.length = 32 := hv.ok x (by simp)
    obtain ⟨D, hD⟩ : ∃ D, D = Tree.root [x] := ⟨_, rfl⟩
    have hDl : D.length = 32 := by rw [hD]; exact hx
    rw [← hD]
    have HD := Lib.hid hD
    have HDl := Lib.hid hDl
    obtain ⟨w0, hw0⟩ : ∃ w0, w0 = w.alloc zSum := ⟨_, rfl⟩
    have b0 : Below w.heap.size w w0 := by rw [hw0]; exact (Below.refl _ _).alloc (Nat.le_refl _) _
    have z0 : w0.heap[w.heap.size]? = some (.cells ((List.replicate 32 (0 : UInt8)).map u8V).toArray 33 (0, 0)) := by rw [hw0]; exact heap_alloc_last _ _
    have Hz0 := Lib.hid z0
    have l0 : w.heap.size < w0.heap.size := by rw [hw0]; simp
    have hr0 : w0.rangeAt b off (D.map u8V) := by
      rw [hD]
      have := below_range b0 hb hr
      simpa [Tree.root_one] using this
    have Hr := Lib.hid hr0
    clear hD hDl z0 hv ih hr hr0 hlen
    go_enter Tryd.func53, Tryd.ntmps53
    go_upto_region 1 with (fail)
    change Code.wp _ _ _ _ (w.alloc zSum)
    rw [← hw0]
    clear hw0
    go_wp2_with (first
      | refine wpList_load_mid rfl 33 (.tmp 12) rfl b off rfl (D.map u8V) _ Hr.out Tryd.underlying33 rfl (sum_info' HDl.out) ?_
      | refine wpList_store_mid rfl 33 (.tmp 2) (.tmp 13) rfl w.heap.size 0 (D.map u8V).toArray rfl rfl (sum_there Hz0.out HDl.out) (sum_info HDl.out) (sum_one D) ?_)
    exact bodyPost_ret (v := sumV D) (results_cell (t := 2) (ty := 33) (b := w.heap.size) (cs := D.map u8V) rfl _ _ _ rfl (sum_range Hz0.out HDl.out) Tryd.underlying33 rfl (sum_info' HDl.out)) rfl ⟨rfl, below_setCells (Nat.le_refl _) _ _ _ b0⟩

  obtain ⟨D, hD⟩ : ∃ D, D = Tree.root l := ⟨_, rfl⟩
  have hDl : D.length = 32 := by rw [hD]; exact Tree.root_length l hv.ok
  rw [← hD]
  have HD := Lib.hid hD
  have HDl := Lib.hid hDl
  obtain ⟨w0, hw0⟩ : ∃ w0, w0 = w.alloc zSum := ⟨_, rfl⟩
  have b0 : Below w.heap.size w w0 := by rw [hw0]; exact (Below.refl _ _).alloc (Nat.le_refl _) _
  have z0 : w0.heap[w.heap.size]? = some (.cells ((List.replicate 32 (0 : UInt8)).map u8V).toArray 33 (0, 0)) := by rw [hw0]; exact heap_alloc_last _ _
  have Hz0 := Lib.hid z0
  have l0 : w.heap.size < w0.heap.size := by rw [hw0]; simp
  have hgo := Tree.root_go l (by omega)
  have hlt := Tree.split_lt (n := l.length) (by omega)
  have hps := Tree.split_pos (n := l.length) (by omega)
  obtain ⟨k, hk⟩ : ∃ k, k = Tree.split l.length := ⟨_, rfl⟩
  rw [← hk] at hgo hlt hps
  obtain ⟨m, hm⟩ : ∃ m, m = l.length := ⟨_, rfl⟩
  have hsp : ∀ u : World, Calls Tryd.prog 75 #[.int .i64 (m : Int)] u fun e w' => e = .returned (.int .i64 (k : Int)) ∧ u = w' := fun u => by
    have := leafSplit_any (m : Int) (by omega) u
    have e : Tree.split (m : Int).toNat = k := by rw [Int.toNat_natCast, hm, ← hk]
    rwa [e] at this
  have Hsp := Lib.hid hsp
  have hvh := hv.head k (by omega)
  have hvt := hv.tail k (by omega)
  rw [← hm] at hv hvt hlc hlt h0 h1 hlen ⊢
  have hkc : k ≤ cap := by omega
  have hkm : k ≤ m := by omega
  have h0' : ¬ (m : Int) = 0 := by omega
  have h1' : ¬ (m : Int) = 1 := by omega
  obtain ⟨A, hA⟩ : ∃ A, A = Tree.root (l.take k) := ⟨_, rfl⟩
  obtain ⟨B, hBB⟩ : ∃ B, B = Tree.root (l.drop k) := ⟨_, rfl⟩
  have hAl : A.length = 32 := by rw [hA]; exact Tree.root_length _ hvh.ok
  have hBl : B.length = 32 := by rw [hBB]; exact Tree.root_length _ hvt.ok
  have hl1 : (l.take k).length = k := by rw [List.length_take]; omega
  have hl2 : (l.drop k).length = m - k := by rw [List.length_drop, hm]
  have ha : ∀ u, Below w0.heap.size w0 u → Calls Tryd.prog 53 #[.slice va k cap] u fun e w' => e = .returned (sumV A) ∧ Below u.heap.size u w' := fun u hu => by
    rw [hA]
    exact ih k (by omega) _ _ u hl1 (by omega) ((hvh.old b0).old hu) ((hK.old b0).old hu)
  have hb : ∀ u, Below w0.heap.size w0 u → Calls Tryd.prog 53 #[.slice (cutS va k cap) (m - k) (cap - k)] u fun e w' => e = .returned (sumV B) ∧ Below u.heap.size u w' := fun u hu => by
    rw [hBB]
    exact ih (m - k) (by omega) _ _ u hl2 (by omega) ((hvt.old b0).old hu) ((hK.old b0).old hu)
  have hn : ∀ u, Below w0.heap.size w0 u → Calls Tryd.prog 57 #[sumV A, sumV B] u fun e w' => e = .returned (sumV D) ∧ Below u.heap.size u w' := fun u hu => by
    rw [hD, hgo, ← hA, ← hBB]
    exact leafNode_any A B hAl hBl u ((hK.old b0).old hu)
  have HA := Lib.hid ha
  have HBb := Lib.hid hb
  have HN := Lib.hid hn
  clear hD hDl hgo hk hm hA hBB hAl hBl hl1 hl2 ha hb hn hlen hsp hvh hvt hv ih h0 h1 z0
  go_enter Tryd.func53, Tryd.ntmps53
  go_upto_region 1 with (fail)
  change Code.wp _ _ _ _ (w.alloc zSum)
  rw [← hw0]
  clear hw0
  go_upto_region 7 with (first
    | (go_at_call 75; ((with_reducible refine (Hsp.out _).mono ?_); rintro e w1 ⟨rfl, hw1⟩))
    | fail)
  try subst hw1
  obtain ⟨W, hW⟩ : ∃ W, W = w0 := ⟨_, rfl⟩
  obtain ⟨q, hq⟩ : ∃ q, q = w.heap.size := ⟨_, rfl⟩
  subst hW
  have HZ := Lib.hid Hz0.out
  have hqW := l0
  rw [← hq] at HZ hqW ⊢
  have Hq := Lib.hid hq
  clear hq

  try simp only [Act.put]
  refine wp_region_ph (Lx := GLx 4) [RXP.is (.slice va m cap), RXP.is (.int .i64 (k : Int)), RXP.is (.slice va k cap), RXP.is (sumV A), RXP.is (.slice va m cap), RXP.is (.int .i64 (k : Int)), RXP.is (.slice (cutS va k cap) (m - k) (cap - k)), RXP.is (sumV B), RXP.is (sumV D), RXP.any] [3, 7, 8, 9] (fun k w' => (k < 4 → Below W.heap.size W w') ∧ (k = 4 → ∃ u, Below W.heap.size W u ∧ w' = u.setCells q 0 (D.map u8V))) (by kernel_rfl) (by kernel_rfl) (by kernel_rfl) (by kernel_rfl) (by kernel_rfl) (⟨fun _ => below_drew (Below.refl _ _), fun h => by cases h⟩) ⟨?_, ?_, ?_, ?_, ?_, ?_, ?_, ?_, ?_, ?_, trivial⟩ ?_
  · intro ac w' ph hF hPh hlt hP hU K hK0
    have e0 : ac.eval (.tmp 0) = .slice va m cap := hF.at 0 (by kernel_rfl)
    exact rop_move _ rfl e0 (wanted_none rfl) (hK0 _ _ GLx.same hPh rfl)
  · intro ac w' ph hF hPh hlt hP hU K hK0
    have e3 : ac.eval (.tmp 3) = .int .i64 (k : Int) := hF.at 3 (by kernel_rfl)
    exact rop_move _ rfl e3 (wanted_none rfl) (hK0 _ _ GLx.same hPh rfl)
  · intro ac w' ph hF hPh hlt hP hU K hK0
    have e17 : ac.eval (.tmp 17) = .slice va m cap := hP 0 (by kernel_rfl)
    have e18 : ac.eval (.tmp 18) = .int .i64 (k : Int) := hP 1 (by kernel_rfl)
    exact rop_sliceG _ _ _ _ _ rfl e17 rfl (by simp [e18]) rfl (scut_h va m cap k hkc w') (wanted_none rfl) (hK0 _ _ GLx.same hPh rfl)
  · intro ac w' ph hF hPh hlt hP hU K hK0
    obtain rfl : ph = 0 := (hlt 0 3 rfl).1 rfl
    have e19 : ac.eval (.tmp 19) = .slice va k cap := hP 2 (by kernel_rfl)
    have hB : Below W.heap.size W w' := hPh.1 (by decide)
    refine rop_call 53 _ _ rfl #[.slice va k cap] (by simp [e19]) (by kernel_rfl) (wanted_none rfl) ?_
    refine (HA.out w' hB).mono ?_
    rintro e w2 ⟨rfl, hb⟩
    exact ⟨_, rfl, hK0 _ _ (GLx.old (by decide) hb) ⟨fun _ => below_step hB (Nat.le_refl _) hb, fun h => by cases h⟩ rfl⟩
  · intro ac w' ph hF hPh hlt hP hU K hK0
    have e0 : ac.eval (.tmp 0) = .slice va m cap := hF.at 0 (by kernel_rfl)
    exact rop_move _ rfl e0 (wanted_none rfl) (hK0 _ _ GLx.same hPh rfl)
  · intro ac w' ph hF hPh hlt hP hU K hK0
    have e3 : ac.eval (.tmp 3) = .int .i64 (k : Int) := hF.at 3 (by kernel_rfl)
    exact rop_move _ rfl e3 (wanted_none rfl) (hK0 _ _ GLx.same hPh rfl)
  · intro ac w' ph hF hPh hlt hP hU K hK0
    have e21 : ac.eval (.tmp 21) = .slice va m cap := hP 4 (by kernel_rfl)
    have e22 : ac.eval (.tmp 22) = .int .i64 (k : Int) := hP 5 (by kernel_rfl)
    exact rop_sliceG _ _ _ _ _ rfl e21 (by simp [e22]) rfl rfl (scut_l va m cap k hkm w') (wanted_none rfl) (hK0 _ _ GLx.same hPh rfl)
  · intro ac w' ph hF hPh hlt hP hU K hK0
    obtain rfl : ph = 1 := (hlt 1 7 rfl).1 rfl
    have e23 : ac.eval (.tmp 23) = .slice (cutS va k cap) (m - k) (cap - k) := hP 6 (by kernel_rfl)
    have hB : Below W.heap.size W w' := hPh.1 (by decide)
    refine rop_call 53 _ _ rfl #[.slice (cutS va k cap) (m - k) (cap - k)] (by simp [e23]) (by kernel_rfl) (wanted_none rfl) ?_
    refine (HBb.out w' hB).mono ?_
    rintro e w2 ⟨rfl, hb⟩
    exact ⟨_, rfl, hK0 _ _ (GLx.old (by decide) hb) ⟨fun _ => below_step hB (Nat.le_refl _) hb, fun h => by cases h⟩ rfl⟩
  · intro ac w' ph hF hPh hlt hP hU K hK0
    obtain rfl : ph = 2 := (hlt 2 8 rfl).1 rfl
    have e20 : ac.eval (.tmp 20) = sumV A := hP 3 (by kernel_rfl)
    have e24 : ac.eval (.tmp 24) = sumV B := hP 7 (by kernel_rfl)
    have hB : Below W.heap.size W w' := hPh.1 (by decide)
    refine rop_call 57 _ _ rfl #[sumV A, sumV B] (by simp [e20, e24]) (by kernel_rfl) (wanted_none rfl) ?_
    refine (HN.out w' hB).mono ?_
    rintro e w2 ⟨rfl, hb⟩
    exact ⟨_, rfl, hK0 _ _ (GLx.old (by decide) hb) ⟨fun _ => below_step hB (Nat.le_refl _) hb, fun h => by cases h⟩ rfl⟩
  · intro ac w' ph hF hPh hlt hP hU K hK0
    obtain rfl : ph = 3 := (hlt 3 9 rfl).1 rfl
    have e2 : ac.eval (.tmp 2) = .pointer (some ⟨q, 0, none⟩) := hF.at 2 (by kernel_rfl)
    have e25 : ac.eval (.tmp 25) = sumV D := hP 8 (by kernel_rfl)
    have hB : Below W.heap.size W w' := hPh.1 (by decide)
    have hz := (hB.block q hqW).trans HZ.out
    exact rop_storeG _ _ _ rfl e2 e25 (run_storeAt_mid w' q 0 _ _ (sum_there hz HDl.out) (sum_info HDl.out) (sum_one D)) (wanted_none rfl) (hK0 _ _ (GLx.last rfl) ⟨fun h => absurd h (by decide), fun _ => ⟨w', hB, rfl⟩⟩ trivial)
  · intro ac w' hF hPh hT
    rw [hF.setsG [17, 18, 19, 20, 21, 22, 23, 24, 25] (by kernel_rfl)]
    simp only [List.foldl_cons, List.foldl_nil, List.setIfInBounds_toArray, List.set_cons_succ, List.set_cons_zero]
    generalize ac.eval (.tmp 17) = u17
    generalize ac.eval (.tmp 18) = u18
    generalize ac.eval (.tmp 19) = u19
    generalize ac.eval (.tmp 20) = u20
    generalize ac.eval (.tmp 21) = u21
    generalize ac.eval (.tmp 22) = u22
    generalize ac.eval (.tmp 23) = u23
    generalize ac.eval (.tmp 24) = u24
    generalize ac.eval (.tmp 25) = u25
    clear  hT hF ac
    obtain ⟨u, bu, rfl⟩ := hPh.2 rfl
    have hz := (bu.block q hqW).trans HZ.out
    have hbu := below_setCells (b := q) (B := w.heap.size) (a := w) (by rw [Hq.out]; exact Nat.le_refl _) (D.map u8V) 0 u (below_step b0 (Nat.le_refl _) bu)
    have Hhz := Lib.hid hz
    clear hPh hz
    go_wp2
    exact bodyPost_ret (v := sumV D) (results_cell (t := 2) (ty := 33) (b := q) (cs := D.map u8V) rfl _ _ _ rfl (sum_range Hhz.out HDl.out) Tryd.underlying33 rfl (sum_info' HDl.out)) rfl ⟨rfl, hbu⟩

set_option maxHeartbeats 2000000 in
set_option maxRecDepth 100000 in
theorem rleafRoot_any (n : Nat) : ∀ (l : Hs) (v : Value) (w : World), l.length = n → n ≤ 1000000 → Sums w v l → 
    Calls Tryd.prog 18 #[v] w fun e w' => e = .returned (sumV (Tree.root l)) ∧ Below w.heap.size w w' := by
  induction n using Nat.strongRecOn with
  | _ n ih =>
  intro l v w hlen hn6 hv
  obtain ⟨va, cap, rfl, hlc, hcap⟩ := hv.slice
  by_cases h0 : l.length = 0
  · obtain rfl : l = [] := List.eq_nil_of_length_eq_zero h0
    simp only [List.length_nil] at hv hlc ⊢
    obtain ⟨D, hD⟩ : ∃ D, D = Tree.root [] := ⟨_, rfl⟩
    have hDl : D.length = 32 := by rw [hD]; exact Tree.empty_length
    rw [← hD]
    have HD := Lib.hid hD
    have HDl := Lib.hid hDl
    obtain ⟨w0, hw0⟩ : ∃ w0, w0 = w.alloc zSum := ⟨_, rfl⟩
    have b0 : Below w.heap.size w w0 := by rw [hw0]; exact (Below.refl _ _).alloc (Nat.le_refl _) _
    have z0 : w0.heap[w.heap.size]? = some (.cells ((List.replicate 32 (0 : UInt8)).map u8V).toArray 33 (0, 0)) := by rw [hw0]; exact heap_alloc_last _ _
    have Hz0 := Lib.hid z0
    have l0 : w.heap.size < w0.heap.size := by rw [hw0]; simp
    have hc : Calls Tryd.prog 42 #[.string ⟨#[]⟩] w0 fun e w' => e = .returned (sumV D) ∧ Below w0.heap.size w0 w' := by rw [hD]; exact rof_any ⟨#[]⟩ [] rfl w0 (by decide)
    have HC := Lib.hid hc
    clear hD hDl z0 hc hv ih hlen
    go_enter Tryd.func18, Tryd.ntmps18
    go_upto_region 1 with (fail)
    change Code.wp _ _ _ _ (w.alloc zSum)
    rw [← hw0]
    clear hw0
    go_wp2_with (first
      | (go_at_call 42; ((with_reducible refine HC.out.mono ?_); rintro e w2 ⟨rfl, b2⟩; have z2 := Lib.hid ((b2.block _ l0).trans Hz0.out)))
      | refine wpList_store_mid rfl 33 (.tmp 2) (.tmp 7) rfl w.heap.size 0 (D.map u8V).toArray rfl rfl (sum_there z2.out HDl.out) (sum_info HDl.out) (sum_one D) ?_)
    exact bodyPost_ret (v := sumV D) (results_cell (t := 2) (ty := 33) (b := w.heap.size) (cs := D.map u8V) rfl _ _ _ rfl (sum_range z2.out HDl.out) Tryd.underlying33 rfl (sum_info' HDl.out)) rfl ⟨rfl, below_setCells (Nat.le_refl _) _ _ _ (below_step b0 (Nat.le_refl _) b2)⟩

  by_cases h1 : l.length = 1
  · obtain ⟨x, rfl⟩ := List.length_eq_one_iff.1 h1
    simp only [List.length_singleton] at hv hlc ⊢
    obtain ⟨b, off, rfl, hb, -, hr⟩ := hv.at 0 (by simp)
    have hx : x.length = 32 := hv.ok x (by simp)
    obtain ⟨D, hD⟩ : ∃ D, D = Tree.root [x] := ⟨_, rfl⟩
    have hDl : D.length = 32 := by rw [hD]; exact hx
    rw [← hD]
    have HD := Lib.hid hD
    have HDl := Lib.hid hDl
    obtain ⟨w0, hw0⟩ : ∃ w0, w0 = w.alloc zSum := ⟨_, rfl⟩
    have b0 : Below w.heap.size w w0 := by rw [hw0]; exact (Below.refl _ _).alloc (Nat.le_refl _) _
    have z0 : w0.heap[w.heap.size]? = some (.cells ((List.replicate 32 (0 : UInt8)).map u8V).toArray 33 (0, 0)) := by rw [hw0]; exact heap_alloc_last _ _
    have Hz0 := Lib.hid z0
    have l0 : w.heap.size < w0.heap.size := by rw [hw0]; simp
    have hr0 : w0.rangeAt b off (D.map u8V) := by
      rw [hD]
      have := below_range b0 hb hr
      simpa [Tree.root_one] using this
    have Hr := Lib.hid hr0
    clear hD hDl z0 hv ih hr hr0 hlen
    go_enter Tryd.func18, Tryd.ntmps18
    go_upto_region 1 with (fail)
    change Code.wp _ _ _ _ (w.alloc zSum)
    rw [← hw0]
    clear hw0
    go_wp2_with (first
      | refine wpList_load_mid rfl 33 (.tmp 12) rfl b off rfl (D.map u8V) _ Hr.out Tryd.underlying33 rfl (sum_info' HDl.out) ?_
      | refine wpList_store_mid rfl 33 (.tmp 2) (.tmp 13) rfl w.heap.size 0 (D.map u8V).toArray rfl rfl (sum_there Hz0.out HDl.out) (sum_info HDl.out) (sum_one D) ?_)
    exact bodyPost_ret (v := sumV D) (results_cell (t := 2) (ty := 33) (b := w.heap.size) (cs := D.map u8V) rfl _ _ _ rfl (sum_range Hz0.out HDl.out) Tryd.underlying33 rfl (sum_info' HDl.out)) rfl ⟨rfl, below_setCells (Nat.le_refl _) _ _ _ b0⟩

  obtain ⟨D, hD⟩ : ∃ D, D = Tree.root l := ⟨_, rfl⟩
  have hDl : D.length = 32 := by rw [hD]; exact Tree.root_length l hv.ok
  rw [← hD]
  have HD := Lib.hid hD
  have HDl := Lib.hid hDl
  obtain ⟨w0, hw0⟩ : ∃ w0, w0 = w.alloc zSum := ⟨_, rfl⟩
  have b0 : Below w.heap.size w w0 := by rw [hw0]; exact (Below.refl _ _).alloc (Nat.le_refl _) _
  have z0 : w0.heap[w.heap.size]? = some (.cells ((List.replicate 32 (0 : UInt8)).map u8V).toArray 33 (0, 0)) := by rw [hw0]; exact heap_alloc_last _ _
  have Hz0 := Lib.hid z0
  have l0 : w.heap.size < w0.heap.size := by rw [hw0]; simp
  have hgo := Tree.root_go l (by omega)
  have hlt := Tree.split_lt (n := l.length) (by omega)
  have hps := Tree.split_pos (n := l.length) (by omega)
  obtain ⟨k, hk⟩ : ∃ k, k = Tree.split l.length := ⟨_, rfl⟩
  rw [← hk] at hgo hlt hps
  obtain ⟨m, hm⟩ : ∃ m, m = l.length := ⟨_, rfl⟩
  have hsp : ∀ u : World, Calls Tryd.prog 43 #[.int .i64 (m : Int)] u fun e w' => e = .returned (.int .i64 (k : Int)) ∧ u = w' := fun u => by
    have := rleafSplit_any (m : Int) (by omega) (by omega) u
    have e : Tree.split (m : Int).toNat = k := by rw [Int.toNat_natCast, hm, ← hk]
    rwa [e] at this
  have Hsp := Lib.hid hsp
  have hvh := hv.head k (by omega)
  have hvt := hv.tail k (by omega)
  rw [← hm] at hv hvt hlc hlt h0 h1 hlen ⊢
  have hkc : k ≤ cap := by omega
  have hkm : k ≤ m := by omega
  have h0' : ¬ (m : Int) = 0 := by omega
  have h1' : ¬ (m : Int) = 1 := by omega
  obtain ⟨A, hA⟩ : ∃ A, A = Tree.root (l.take k) := ⟨_, rfl⟩
  obtain ⟨B, hBB⟩ : ∃ B, B = Tree.root (l.drop k) := ⟨_, rfl⟩
  have hAl : A.length = 32 := by rw [hA]; exact Tree.root_length _ hvh.ok
  have hBl : B.length = 32 := by rw [hBB]; exact Tree.root_length _ hvt.ok
  have hl1 : (l.take k).length = k := by rw [List.length_take]; omega
  have hl2 : (l.drop k).length = m - k := by rw [List.length_drop, hm]
  have ha : ∀ u, Below w0.heap.size w0 u → Calls Tryd.prog 18 #[.slice va k cap] u fun e w' => e = .returned (sumV A) ∧ Below u.heap.size u w' := fun u hu => by
    rw [hA]
    exact ih k (by omega) _ _ u hl1 (by omega) ((hvh.old b0).old hu)
  have hb : ∀ u, Below w0.heap.size w0 u → Calls Tryd.prog 18 #[.slice (cutS va k cap) (m - k) (cap - k)] u fun e w' => e = .returned (sumV B) ∧ Below u.heap.size u w' := fun u hu => by
    rw [hBB]
    exact ih (m - k) (by omega) _ _ u hl2 (by omega) ((hvt.old b0).old hu)
  have hn : ∀ u, Below w0.heap.size w0 u → Calls Tryd.prog 44 #[sumV A, sumV B] u fun e w' => e = .returned (sumV D) ∧ Below u.heap.size u w' := fun u hu => by
    rw [hD, hgo, ← hA, ← hBB]
    exact rleafNode_any A B hAl hBl u
  have HA := Lib.hid ha
  have HBb := Lib.hid hb
  have HN := Lib.hid hn
  clear hD hDl hgo hk hm hA hBB hAl hBl hl1 hl2 ha hb hn hlen hsp hvh hvt hv ih h0 h1 z0
  go_enter Tryd.func18, Tryd.ntmps18
  go_upto_region 1 with (fail)
  change Code.wp _ _ _ _ (w.alloc zSum)
  rw [← hw0]
  clear hw0
  go_upto_region 6 with (first
    | (go_at_call 43; ((with_reducible refine (Hsp.out _).mono ?_); rintro e w1 ⟨rfl, hw1⟩))
    | fail)
  try subst hw1
  obtain ⟨W, hW⟩ : ∃ W, W = w0 := ⟨_, rfl⟩
  obtain ⟨q, hq⟩ : ∃ q, q = w.heap.size := ⟨_, rfl⟩
  subst hW
  have HZ := Lib.hid Hz0.out
  have hqW := l0
  rw [← hq] at HZ hqW ⊢
  have Hq := Lib.hid hq
  clear hq

  try simp only [Act.put]
  refine wp_region_ph (Lx := GLx 4) [RXP.is (.slice va m cap), RXP.is (.int .i64 (k : Int)), RXP.is (.slice va k cap), RXP.is (sumV A), RXP.is (.slice va m cap), RXP.is (.int .i64 (k : Int)), RXP.is (.slice (cutS va k cap) (m - k) (cap - k)), RXP.is (sumV B), RXP.is (sumV D), RXP.any] [3, 7, 8, 9] (fun k w' => (k < 4 → Below W.heap.size W w') ∧ (k = 4 → ∃ u, Below W.heap.size W u ∧ w' = u.setCells q 0 (D.map u8V))) (by kernel_rfl) (by kernel_rfl) (by kernel_rfl) (by kernel_rfl) (by kernel_rfl) (⟨fun _ => below_drew (Below.refl _ _), fun h => by cases h⟩) ⟨?_, ?_, ?_, ?_, ?_, ?_, ?_, ?_, ?_, ?_, trivial⟩ ?_
  · intro ac w' ph hF hPh hlt hP hU K hK0
    have e0 : ac.eval (.tmp 0) = .slice va m cap := hF.at 0 (by kernel_rfl)
    exact rop_move _ rfl e0 (wanted_none rfl) (hK0 _ _ GLx.same hPh rfl)
  · intro ac w' ph hF hPh hlt hP hU K hK0
    have e3 : ac.eval (.tmp 3) = .int .i64 (k : Int) := hF.at 3 (by kernel_rfl)
    exact rop_move _ rfl e3 (wanted_none rfl) (hK0 _ _ GLx.same hPh rfl)
  · intro ac w' ph hF hPh hlt hP hU K hK0
    have e17 : ac.eval (.tmp 17) = .slice va m cap := hP 0 (by kernel_rfl)
    have e18 : ac.eval (.tmp 18) = .int .i64 (k : Int) := hP 1 (by kernel_rfl)
    exact rop_sliceG _ _ _ _ _ rfl e17 rfl (by simp [e18]) rfl (scut_h va m cap k hkc w') (wanted_none rfl) (hK0 _ _ GLx.same hPh rfl)
  · intro ac w' ph hF hPh hlt hP hU K hK0
    obtain rfl : ph = 0 := (hlt 0 3 rfl).1 rfl
    have e19 : ac.eval (.tmp 19) = .slice va k cap := hP 2 (by kernel_rfl)
    have hB : Below W.heap.size W w' := hPh.1 (by decide)
    refine rop_call 18 _ _ rfl #[.slice va k cap] (by simp [e19]) (by kernel_rfl) (wanted_none rfl) ?_
    refine (HA.out w' hB).mono ?_
    rintro e w2 ⟨rfl, hb⟩
    exact ⟨_, rfl, hK0 _ _ (GLx.old (by decide) hb) ⟨fun _ => below_step hB (Nat.le_refl _) hb, fun h => by cases h⟩ rfl⟩
  · intro ac w' ph hF hPh hlt hP hU K hK0
    have e0 : ac.eval (.tmp 0) = .slice va m cap := hF.at 0 (by kernel_rfl)
    exact rop_move _ rfl e0 (wanted_none rfl) (hK0 _ _ GLx.same hPh rfl)
  · intro ac w' ph hF hPh hlt hP hU K hK0
    have e3 : ac.eval (.tmp 3) = .int .i64 (k : Int) := hF.at 3 (by kernel_rfl)
    exact rop_move _ rfl e3 (wanted_none rfl) (hK0 _ _ GLx.same hPh rfl)
  · intro ac w' ph hF hPh hlt hP hU K hK0
    have e21 : ac.eval (.tmp 21) = .slice va m cap := hP 4 (by kernel_rfl)
    have e22 : ac.eval (.tmp 22) = .int .i64 (k : Int) := hP 5 (by kernel_rfl)
    exact rop_sliceG _ _ _ _ _ rfl e21 (by simp [e22]) rfl rfl (scut_l va m cap k hkm w') (wanted_none rfl) (hK0 _ _ GLx.same hPh rfl)
  · intro ac w' ph hF hPh hlt hP hU K hK0
    obtain rfl : ph = 1 := (hlt 1 7 rfl).1 rfl
    have e23 : ac.eval (.tmp 23) = .slice (cutS va k cap) (m - k) (cap - k) := hP 6 (by kernel_rfl)
    have hB : Below W.heap.size W w' := hPh.1 (by decide)
    refine rop_call 18 _ _ rfl #[.slice (cutS va k cap) (m - k) (cap - k)] (by simp [e23]) (by kernel_rfl) (wanted_none rfl) ?_
    refine (HBb.out w' hB).mono ?_
    rintro e w2 ⟨rfl, hb⟩
    exact ⟨_, rfl, hK0 _ _ (GLx.old (by decide) hb) ⟨fun _ => below_step hB (Nat.le_refl _) hb, fun h => by cases h⟩ rfl⟩
  · intro ac w' ph hF hPh hlt hP hU K hK0
    obtain rfl : ph = 2 := (hlt 2 8 rfl).1 rfl
    have e20 : ac.eval (.tmp 20) = sumV A := hP 3 (by kernel_rfl)
    have e24 : ac.eval (.tmp 24) = sumV B := hP 7 (by kernel_rfl)
    have hB : Below W.heap.size W w' := hPh.1 (by decide)
    refine rop_call 44 _ _ rfl #[sumV A, sumV B] (by simp [e20, e24]) (by kernel_rfl) (wanted_none rfl) ?_
    refine (HN.out w' hB).mono ?_
    rintro e w2 ⟨rfl, hb⟩
    exact ⟨_, rfl, hK0 _ _ (GLx.old (by decide) hb) ⟨fun _ => below_step hB (Nat.le_refl _) hb, fun h => by cases h⟩ rfl⟩
  · intro ac w' ph hF hPh hlt hP hU K hK0
    obtain rfl : ph = 3 := (hlt 3 9 rfl).1 rfl
    have e2 : ac.eval (.tmp 2) = .pointer (some ⟨q, 0, none⟩) := hF.at 2 (by kernel_rfl)
    have e25 : ac.eval (.tmp 25) = sumV D := hP 8 (by kernel_rfl)
    have hB : Below W.heap.size W w' := hPh.1 (by decide)
    have hz := (hB.block q hqW).trans HZ.out
    exact rop_storeG _ _ _ rfl e2 e25 (run_storeAt_mid w' q 0 _ _ (sum_there hz HDl.out) (sum_info HDl.out) (sum_one D)) (wanted_none rfl) (hK0 _ _ (GLx.last rfl) ⟨fun h => absurd h (by decide), fun _ => ⟨w', hB, rfl⟩⟩ trivial)
  · intro ac w' hF hPh hT
    rw [hF.setsG [17, 18, 19, 20, 21, 22, 23, 24, 25] (by kernel_rfl)]
    simp only [List.foldl_cons, List.foldl_nil, List.setIfInBounds_toArray, List.set_cons_succ, List.set_cons_zero]
    generalize ac.eval (.tmp 17) = u17
    generalize ac.eval (.tmp 18) = u18
    generalize ac.eval (.tmp 19) = u19
    generalize ac.eval (.tmp 20) = u20
    generalize ac.eval (.tmp 21) = u21
    generalize ac.eval (.tmp 22) = u22
    generalize ac.eval (.tmp 23) = u23
    generalize ac.eval (.tmp 24) = u24
    generalize ac.eval (.tmp 25) = u25
    clear  hT hF ac
    obtain ⟨u, bu, rfl⟩ := hPh.2 rfl
    have hz := (bu.block q hqW).trans HZ.out
    have hbu := below_setCells (b := q) (B := w.heap.size) (a := w) (by rw [Hq.out]; exact Nat.le_refl _) (D.map u8V) 0 u (below_step b0 (Nat.le_refl _) bu)
    have Hhz := Lib.hid hz
    clear hPh hz
    go_wp2
    exact bodyPost_ret (v := sumV D) (results_cell (t := 2) (ty := 33) (b := q) (cs := D.map u8V) rfl _ _ _ rfl (sum_range Hhz.out HDl.out) Tryd.underlying33 rfl (sum_info' HDl.out)) rfl ⟨rfl, hbu⟩

end Go.Proofs.YtollcdalokhjaaaDoor
/-! ## Package leaf: the closure of Levels, which makes the row above. -/
namespace Go.Proofs.YtollcdalokhjaaaDoor
open Go.RowKit

/-- Ahead of pair j. -/
def AbRel (B : Nat) (w : World) (l : Hs) (s3 s4 : Value) (wr : World) : Prop :=
  ∃ j : Nat, 2 * j ≤ l.length ∧ OwnS B wr s3 (Tree.up (l.take (2 * j))) ∧ SumsB B wr s4 (l.drop (2 * j)) ∧ Below B w wr
theorem up_step2 (l : Hs) (j : Nat) (h : 2 * j + 2 ≤ l.length) : Tree.up (l.take (2 * (j + 1))) = Tree.up (l.take (2 * j)) ++ [Tree.node (l[2 * j]'(by omega)) (l[2 * j + 1]'(by omega))] := by
  rw [show 2 * (j + 1) = 2 * j + 1 + 1 by omega, List.take_succ_eq_append_getElem (by omega), List.take_succ_eq_append_getElem (by omega), List.append_assoc, Tree.up_append j _ _ (by rw [List.length_take]; omega)]
  rfl
theorem up_step1 (l : Hs) (j : Nat) (h : l.length = 2 * j + 1) : Tree.up l = Tree.up (l.take (2 * j)) ++ [l[2 * j]'(by omega)] := by
  have e : l = l.take (2 * j) ++ [l[2 * j]'(by omega)] := by
    have := List.take_succ_eq_append_getElem (l := l) (i := 2 * j) (by omega)
    rw [List.take_of_length_le (by omega)] at this
    exact this
  conv => lhs; rw [e]
  rw [Tree.up_append j _ _ (by rw [List.length_take]; omega)]
  rfl
theorem fold_zero (x : List UInt8) (h : x.length = 32) : List.foldl (fun (cs : Array Value) (x : Value × Nat) => cs.setIfInBounds x.snd x.fst) #[.int .u8 0, .int .u8 0, .int .u8 0, .int .u8 0, .int .u8 0, .int .u8 0, .int .u8 0, .int .u8 0, .int .u8 0, .int .u8 0, .int .u8 0, .int .u8 0, .int .u8 0, .int .u8 0, .int .u8 0, .int .u8 0, .int .u8 0, .int .u8 0, .int .u8 0, .int .u8 0, .int .u8 0, .int .u8 0, .int .u8 0, .int .u8 0, .int .u8 0, .int .u8 0, .int .u8 0, .int .u8 0, .int .u8 0, .int .u8 0, .int .u8 0, .int .u8 0] (x.map u8V).zipIdx = (x.map u8V).toArray := by
  have := fold_put (x.map u8V) 0 0 [] [.int .u8 0, .int .u8 0, .int .u8 0, .int .u8 0, .int .u8 0, .int .u8 0, .int .u8 0, .int .u8 0, .int .u8 0, .int .u8 0, .int .u8 0, .int .u8 0, .int .u8 0, .int .u8 0, .int .u8 0, .int .u8 0, .int .u8 0, .int .u8 0, .int .u8 0, .int .u8 0, .int .u8 0, .int .u8 0, .int .u8 0, .int .u8 0, .int .u8 0, .int .u8 0, .int .u8 0, .int .u8 0, .int .u8 0, .int .u8 0, .int .u8 0, .int .u8 0] [] rfl (by rw [List.length_map, h]; rfl)
  simpa using this
end Go.Proofs.YtollcdalokhjaaaDoor
/-! ## Package leaf: Levels. -/
namespace Go.Proofs.YtollcdalokhjaaaDoor
open Go.RowKit

/-- Ahead of a row that is to be made. -/
def LvRel (B : Nat) (w : World) (l : Hs) (s4 s5 : Value) (wr : World) : Prop :=
  ∃ (vs : List Value) (ls : List Hs) (cur : Hs), RowsAt B wr s5 (vs ++ [s4]) (ls ++ [cur]) ∧ Tree.levels l = ls ++ Tree.levels cur ∧ ls.length + cur.length ≤ 1000 ∧ Below B w wr
theorem RowsAt.last {B : Nat} {w : World} {v x : Value} {vs : List Value} {ls : List Hs} {l : Hs} (h : RowsAt B w v (vs ++ [x]) (ls ++ [l])) : OwnS B w x l := by
  have := h.len
  simp at this
  exact h.row vs.length x l (by simp) (by rw [this]; simp)
end Go.Proofs.YtollcdalokhjaaaDoor
/-! ## The document's own Levels and Same (scriniumref09). -/
namespace Go.Proofs.YtollcdalokhjaaaDoor
open Go.RowKit

theorem index_sumsI (b o n cap k : Nat) (K : Int) (hK : K = (k : Int)) (h : k < n) (w : World) : (Instr.indexAt 27 (.slice (some ⟨b, o, none⟩) n cap) (.int .i64 K)).run Tryd.prog w = .ok (.pointer (some ⟨b, o + k * 32, none⟩)) w := by
  subst hK
  exact index_sums b o n cap k h w
/-- Ahead of the pair at i. -/
def RUpRel (B : Nat) (w : World) (cur : Hs) (s5 s6 : Value) (wr : World) : Prop :=
  ∃ j i : Nat, i = 2 * j ∧ s6 = .int .i64 (i : Int) ∧ i ≤ cur.length + 1 ∧ OwnS B wr s5 (Tree.up (cur.take i)) ∧ Below B w wr
/-- Ahead of a row that is to be made. -/
def RLvRel (B : Nat) (w : World) (l : Hs) (s3 s4 : Value) (wr : World) : Prop :=
  ∃ (vs : List Value) (ls : List Hs) (cur : Hs), RowsAt B wr s4 (vs ++ [s3]) (ls ++ [cur]) ∧ Tree.levels l = ls ++ Tree.levels cur ∧ ls.length + cur.length ≤ 1000 ∧ Below B w wr
/-- Ahead of element i. -/
def SameRel (l r : Hs) (s5 : Value) : Prop := ∃ i : Nat, s5 = .int .i64 (i : Int) ∧ i ≤ l.length ∧ l.take i = r.take i
set_option maxHeartbeats 3200000 in
set_option maxRecDepth 100000 in
theorem same_any (va vb : Value) (l r : Hs) (w : World) (ha : Sums w va l) (hb : Sums w vb r) (hn : l.length ≤ 1000) :
    Calls Tryd.prog 17 #[va, vb] w fun e w' => e = .returned (.bool (decide (l = r))) ∧ Below w.heap.size w w' := by
  obtain ⟨aa, ca, rfl, _, _⟩ := ha.slice
  obtain ⟨ab, cb, rfl, _, hcb⟩ := hb.slice
  by_cases hl : l.length = r.length
  · obtain ⟨m, hm⟩ : ∃ m, m = l.length := ⟨_, rfl⟩
    rw [← hl]
    rw [← hl] at hb
    rw [← hm] at ha hb ⊢
    have Hm := Lib.hid hm
    have Hl := Lib.hid hl
    have HA := Lib.hid ha
    have HBb := Lib.hid hb
    have hm9 : m ≤ 1000 := by omega
    clear hl hm ha hb hn
    go_enter Tryd.func17, Tryd.ntmps17
    go_wp2
    go_loopw [5] (fun s5 wr => SameRel l r s5 ∧ Below w.heap.size w wr) (fun s5 _ => m - (intOf s5).toNat)
    case atStart => exact ⟨⟨0, rfl, by omega, by simp⟩, Below.refl _ _⟩
    case round =>
      obtain ⟨⟨i, rfl, hi, hpre⟩, hbel⟩ := hrel
      have Hpre := Lib.hid hpre
      clear hpre
      by_cases hlt : i < m
      · have hlt' : (i : Int) < (m : Int) := by omega
        have hw1 := IntWalk.i64_in ((i : Int) + 1) (by omega)
        have hli : i < l.length := by rw [← Hm.out]; exact hlt
        have hri : i < r.length := by rw [← Hl.out]; exact hli
        obtain ⟨b, off, rfl, hb1, -, rx⟩ := (HA.out.old hbel).at i hli
        obtain ⟨b2, off2, rfl, hb2, -, ry⟩ := (HBb.out.old hbel).at i hri
        obtain ⟨x, hx⟩ : ∃ x, x = l[i] := ⟨_, rfl⟩
        obtain ⟨y, hy⟩ : ∃ y, y = r[i] := ⟨_, rfl⟩
        have hxl : x.length = 32 := by rw [hx]; exact HA.out.ok _ (List.getElem_mem _)
        have hyl : y.length = 32 := by rw [hy]; exact HBb.out.ok _ (List.getElem_mem _)
        rw [← hx] at rx
        rw [← hy] at ry
        have HX := Lib.hid hxl
        have HY := Lib.hid hyl
        have hne : x ≠ y → l ≠ r := fun h e => h (by rw [hx, hy]; subst e; rfl)
        have hnx : x = y → l.take (i + 1) = r.take (i + 1) := fun h => by
          rw [List.take_succ_eq_append_getElem hli, List.take_succ_eq_append_getElem hri, ← hx, ← hy, h, Hpre.out]
        have HNe := Lib.hid hne
        have HNx := Lib.hid hnx
        clear hx hy hxl hyl hne hnx
        go_wp2
        try simp only [Act.put]
        refine wp_region_tab [RT.is (.slice (some ⟨b, off, none⟩) m ca), RT.is (.int .i64 (i : Int)), RT.is (.pointer (some ⟨b, off + i * 32, none⟩)), RT.is (sumV x), RT.is (.slice (some ⟨b2, off2, none⟩) m cb), RT.is (.int .i64 (i : Int)), RT.is (.pointer (some ⟨b2, off2 + i * 32, none⟩)), RT.is (sumV y), RT.is (.bool (!decide (x = y)))] (by kernel_rfl) (by kernel_rfl) (by kernel_rfl) (by kernel_rfl) ⟨?_, ?_, ?_, ?_, ?_, ?_, ?_, ?_, ?_, trivial⟩ ?_
        · intro ac w' hF hL hP hU K hK
          have hB := below_undrew hL
          have e0 : ac.eval (.tmp 0) = .slice (some ⟨b, off, none⟩) m ca := hF.at 0 (by kernel_rfl)
          exact rop_move _ rfl e0 (wanted_none rfl) (hK _ _ (le8_refl _) rfl)
        · intro ac w' hF hL hP hU K hK
          have hB := below_undrew hL
          have e5 : ac.eval (.tmp 5) = .int .i64 (i : Int) := hF.at 5 (by kernel_rfl)
          exact rop_move _ rfl e5 (wanted_none rfl) (hK _ _ (le8_refl _) rfl)
        · intro ac w' hF hL hP hU K hK
          have hB := below_undrew hL
          have e17 : ac.eval (.tmp 17) = .slice (some ⟨b, off, none⟩) m ca := hP 0 (by kernel_rfl)
          have e18 : ac.eval (.tmp 18) = .int .i64 (i : Int) := hP 1 (by kernel_rfl)
          exact rop_idx _ _ _ rfl e17 e18 (index_sumsI b off m ca i _ rfl (by omega) w') (wanted_none rfl) (hK _ _ (le8_refl _) rfl)
        · intro ac w' hF hL hP hU K hK
          have hB := below_undrew hL
          have e19 : ac.eval (.tmp 19) = .pointer (some ⟨b, off + i * 32, none⟩) := hP 2 (by kernel_rfl)
          exact rop_ld _ _ rfl e19 (run_loadAt_mid _ _ _ _ _ _ (below_range hB hb1 rx) Tryd.underlying33 rfl (sum_info' HX.out)) (wanted_none rfl) (hK _ _ (le8_refl _) rfl)
        · intro ac w' hF hL hP hU K hK
          have hB := below_undrew hL
          have e1 : ac.eval (.tmp 1) = .slice (some ⟨b2, off2, none⟩) m cb := hF.at 1 (by kernel_rfl)
          exact rop_move _ rfl e1 (wanted_none rfl) (hK _ _ (le8_refl _) rfl)
        · intro ac w' hF hL hP hU K hK
          have hB := below_undrew hL
          have e5 : ac.eval (.tmp 5) = .int .i64 (i : Int) := hF.at 5 (by kernel_rfl)
          exact rop_move _ rfl e5 (wanted_none rfl) (hK _ _ (le8_refl _) rfl)
        · intro ac w' hF hL hP hU K hK
          have hB := below_undrew hL
          have e21 : ac.eval (.tmp 21) = .slice (some ⟨b2, off2, none⟩) m cb := hP 4 (by kernel_rfl)
          have e22 : ac.eval (.tmp 22) = .int .i64 (i : Int) := hP 5 (by kernel_rfl)
          exact rop_idx _ _ _ rfl e21 e22 (index_sumsI b2 off2 m cb i _ rfl (by omega) w') (wanted_none rfl) (hK _ _ (le8_refl _) rfl)
        · intro ac w' hF hL hP hU K hK
          have hB := below_undrew hL
          have e23 : ac.eval (.tmp 23) = .pointer (some ⟨b2, off2 + i * 32, none⟩) := hP 6 (by kernel_rfl)
          exact rop_ld _ _ rfl e23 (run_loadAt_mid _ _ _ _ _ _ (below_range hB hb2 ry) Tryd.underlying33 rfl (sum_info' HY.out)) (wanted_none rfl) (hK _ _ (le8_refl _) rfl)
        · intro ac w' hF hL hP hU K hK
          have hB := below_undrew hL
          have e20 : ac.eval (.tmp 20) = sumV x := hP 3 (by kernel_rfl)
          have e24 : ac.eval (.tmp 24) = sumV y := hP 7 (by kernel_rfl)
          exact rop_bin _ _ _ _ _ rfl e20 e24 (guard_run _ _ _ _ _ _) (neq_sum x y HX.out HY.out w') (wanted_none rfl) (hK _ _ (le8_refl _) rfl)
        · intro ac w' hF hB hT
          have e25 : ac.eval (.tmp 25) = .bool (!decide (x = y)) := hT 8 (by decide)
          rw [hF.setsG [17, 18, 19, 20, 21, 22, 23, 24, 25] (by kernel_rfl)]
          simp only [List.foldl_cons, List.foldl_nil, List.setIfInBounds_toArray, List.set_cons_succ, List.set_cons_zero, e25]
          generalize ac.eval (.tmp 17) = u17
          generalize ac.eval (.tmp 18) = u18
          generalize ac.eval (.tmp 19) = u19
          generalize ac.eval (.tmp 20) = u20
          generalize ac.eval (.tmp 21) = u21
          generalize ac.eval (.tmp 22) = u22
          generalize ac.eval (.tmp 23) = u23
          generalize ac.eval (.tmp 24) = u24
          clear e25 hT hF ac
          have hB2 := hB
          have hbw : Below w.heap.size w w' := below_step hbel (Nat.le_refl _) hB2
          clear hB
          by_cases hxy : x = y
          · have hd : decide (x = y) = true := decide_eq_true hxy
            have HXY := Lib.hid hxy
            rw [hd]
            clear hxy hd
            go_wp2
            exact ⟨⟨⟨i + 1, by simp, by omega, HNx.out HXY.out⟩, hbw⟩, by simp [intOf]; omega⟩
          · have hd : decide (x = y) = false := decide_eq_false hxy
            have hlr : decide (l = r) = false := decide_eq_false (HNe.out hxy)
            rw [hd]
            have HLR := Lib.hid hlr
            clear hxy hd hlr
            go_wp2
            go_ret
            exact ⟨by rw [HLR.out]; rfl, hbw⟩
      · have hlt' : ¬ (i : Int) < (m : Int) := by omega
        have hlr : decide (l = r) = true := decide_eq_true (by
          have := Hpre.out
          rwa [List.take_of_length_le (by rw [← Hm.out]; omega), List.take_of_length_le (by rw [← Hl.out, ← Hm.out]; omega)] at this)
        have HLR := Lib.hid hlr
        clear hlr
        go_wp2
        go_ret
        exact ⟨by rw [HLR.out]; rfl, hbel⟩
  · have hlr : decide (l = r) = false := decide_eq_false fun e => hl (by rw [e])
    have HLR := Lib.hid hlr
    have hl' : ¬ (l.length : Int) = (r.length : Int) := by omega
    clear hlr ha hb
    go_enter Tryd.func17, Tryd.ntmps17
    go_wp2
    go_ret
    exact ⟨by rw [HLR.out]; rfl, Below.refl _ _⟩
end Go.Proofs.YtollcdalokhjaaaDoor
/-! ## The statements' own helpers awake and few (scriniumlaw09). -/
namespace Go.Proofs.YtollcdalokhjaaaDoor
open Go.RowKit

theorem tree_empty_hex : (⟨(Sha.hexL Tree.empty).toArray⟩ : ByteArray) = ⟨#[101, 51, 98, 48, 99, 52, 52, 50, 57, 56, 102, 99, 49, 99, 49, 52, 57, 97, 102, 98, 102, 52, 99, 56, 57, 57, 54, 102, 98, 57, 50, 52, 50, 55, 97, 101, 52, 49, 101, 52, 54, 52, 57, 98, 57, 51, 52, 99, 97, 52, 57, 53, 57, 57, 49, 98, 55, 56, 53, 50, 98, 56, 53, 53]⟩ := by
  rw [show Sha.hexL Tree.empty = [101, 51, 98, 48, 99, 52, 52, 50, 57, 56, 102, 99, 49, 99, 49, 52, 57, 97, 102, 98, 102, 52, 99, 56, 57, 57, 54, 102, 98, 57, 50, 52, 50, 55, 97, 101, 52, 49, 101, 52, 54, 52, 57, 98, 57, 51, 52, 99, 97, 52, 57, 53, 57, 57, 49, 98, 55, 56, 53, 50, 98, 56, 53, 53] by kernel_rfl]
theorem tree_leaf_hex : (⟨(Sha.hexL (Tree.leafH [])).toArray⟩ : ByteArray) = ⟨#[54, 101, 51, 52, 48, 98, 57, 99, 102, 102, 98, 51, 55, 97, 57, 56, 57, 99, 97, 53, 52, 52, 101, 54, 98, 98, 55, 56, 48, 97, 50, 99, 55, 56, 57, 48, 49, 100, 51, 102, 98, 51, 51, 55, 51, 56, 55, 54, 56, 53, 49, 49, 97, 51, 48, 54, 49, 55, 97, 102, 97, 48, 49, 100]⟩ := by
  rw [show Sha.hexL (Tree.leafH []) = [54, 101, 51, 52, 48, 98, 57, 99, 102, 102, 98, 51, 55, 97, 57, 56, 57, 99, 97, 53, 52, 52, 101, 54, 98, 98, 55, 56, 48, 97, 50, 99, 55, 56, 57, 48, 49, 100, 51, 102, 98, 51, 51, 55, 51, 56, 55, 54, 56, 53, 49, 49, 97, 51, 48, 54, 49, 55, 97, 102, 97, 48, 49, 100] by kernel_rfl]
theorem tree_root_hex : (⟨(Sha.hexL (Tree.root [Tree.leafH [97], Tree.leafH [98], Tree.leafH [99]])).toArray⟩ : ByteArray) = ⟨#[51, 54, 54, 52, 50, 101, 55, 51, 99, 50, 53, 52, 48, 97, 98, 49, 50, 49, 101, 51, 97, 54, 98, 102, 57, 53, 52, 53, 98, 48, 97, 50, 52, 57, 56, 50, 99, 100, 56, 51, 48, 101, 98, 49, 51, 100, 51, 99, 100, 49, 57, 100, 101, 51, 99, 101, 54, 99, 48, 50, 49, 101, 99, 49]⟩ := by
  rw [show Sha.hexL (Tree.root [Tree.leafH [97], Tree.leafH [98], Tree.leafH [99]]) = [51, 54, 54, 52, 50, 101, 55, 51, 99, 50, 53, 52, 48, 97, 98, 49, 50, 49, 101, 51, 97, 54, 98, 102, 57, 53, 52, 53, 98, 48, 97, 50, 52, 57, 56, 50, 99, 100, 56, 51, 48, 101, 98, 49, 51, 100, 51, 99, 100, 49, 57, 100, 101, 51, 99, 101, 54, 99, 48, 50, 49, 101, 99, 49] by kernel_rfl]
end Go.Proofs.YtollcdalokhjaaaDoor
