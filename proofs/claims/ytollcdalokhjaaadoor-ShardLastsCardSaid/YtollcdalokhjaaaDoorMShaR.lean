/-
  Several texts in one (RefStep, RefStep2, RefOf).
-/
import Derived.Test.YtollcdalokhjaaaDoorMShaB
import Derived.Test.YtollcdalokhjaaaDoorShaStep
import Derived.Test.YtollcdalokhjaaaDoorMMac
/-! ## The document's own words on a block (scriniumref02): Keys, Start, Step. -/
namespace Go.Proofs.YtollcdalokhjaaaDoor
namespace Sha
theorem ws_wl (b : List Nat) (h : b.length = 16) (n j : Nat) (hn : n ≤ 48) (hj : j < 16 + n) : (wl b n).getD j 0 = (ws b).getD (16 + n - 1 - j) 0 := by
  have hl := wl_length b 48
  have hd := wl_drop b n (48 - n)
  rw [show n + (48 - n) = 48 by omega] at hd
  unfold ws
  rw [← hd, List.getD_eq_getElem?_getD, List.getElem?_drop, List.getD_eq_getElem?_getD, List.getElem?_reverse (by omega), hl, h]
  congr 2
  omega
theorem ws_small (b : List Nat) (h : b.length = 16) (t : Nat) (ht : t < 16) : (ws b).getD t 0 = b.getD t 0 := by
  have := ws_wl b h 0 (15 - t) (by omega) (by omega)
  rw [show 16 + 0 - 1 - (15 - t) = t by omega] at this
  rw [← this]
  show b.reverse.getD (15 - t) 0 = _
  rw [List.getD_eq_getElem?_getD, List.getElem?_reverse (by omega), List.getD_eq_getElem?_getD]
  congr 2
  omega
theorem ws_big (b : List Nat) (h : b.length = 16) (t : Nat) (h16 : 16 ≤ t) (ht : t < 64) : (ws b).getD t 0 = (s1 ((ws b).getD (t - 2) 0) + (ws b).getD (t - 7) 0 + s0 ((ws b).getD (t - 15) 0) + (ws b).getD (t - 16) 0) % 4294967296 := by
  obtain ⟨n, rfl⟩ : ∃ n, t = 16 + n := ⟨t - 16, by omega⟩
  have e := ws_wl b h (n + 1) 0 (by omega) (by omega)
  rw [show 16 + (n + 1) - 1 - 0 = 16 + n by omega] at e
  rw [← e, wl, List.getD_cons_zero, ws_wl b h n 1 (by omega) (by omega), ws_wl b h n 6 (by omega) (by omega), ws_wl b h n 14 (by omega) (by omega), ws_wl b h n 15 (by omega) (by omega)]
  rw [show 16 + n - 1 - 1 = 16 + n - 2 by omega, show 16 + n - 1 - 6 = 16 + n - 7 by omega, show 16 + n - 1 - 14 = 16 + n - 15 by omega, show 16 + n - 1 - 15 = 16 + n - 16 by omega]
theorem ws_lt (b : List Nat) (h : b.length = 16) (hb : ∀ x ∈ b, x < 4294967296) (t : Nat) : (ws b).getD t 0 < 4294967296 := by
  by_cases ht : t < 16
  · rw [ws_small b h t ht]; exact getD_lt b hb t
  · by_cases h64 : t < 64
    · rw [ws_big b h t (by omega) h64]; exact Nat.mod_lt _ (by decide)
    · rw [List.getD_eq_getElem?_getD, List.getElem?_eq_none (by rw [ws_length b h]; omega)]; decide
theorem fill_set (l : List Nat) (t n : Nat) (h : t < l.length) (hn : l.length = n) : (l.take t ++ List.replicate (n - t) 0).set t (l.getD t 0) = l.take (t + 1) ++ List.replicate (n - (t + 1)) 0 := by
  subst hn
  rw [List.set_append_right _ _ (by rw [List.length_take]; omega), List.length_take, Nat.min_eq_left (by omega), Nat.sub_self, List.take_succ_eq_append_getElem h, show l.length - t = (l.length - (t + 1)) + 1 by omega, List.replicate_succ, List.set_cons_zero, List.append_assoc]
  have e : l.getD t 0 = l[t] := by rw [List.getD_eq_getElem?_getD, List.getElem?_eq_getElem h]; rfl
  rw [e]
  rfl
theorem fill_at (l : List Nat) (t n i : Nat) (h : i < t) (ht : t ≤ l.length) : (l.take t ++ List.replicate (n - t) 0).getD i 0 = l.getD i 0 := by
  rw [List.getD_eq_getElem?_getD, List.getElem?_append_left (by rw [List.length_take]; omega), List.getElem?_take_of_lt h, List.getD_eq_getElem?_getD]
theorem fill_length (l : List Nat) (t n : Nat) (ht : t ≤ l.length) (hn : l.length = n) : (l.take t ++ List.replicate (n - t) 0).length = n := by
  rw [List.length_append, List.length_take, List.length_replicate]; omega
end Sha
open Go.RowKit

theorem vC_eq (v : Sha.V) : vC v = bC v.list := rfl
def z64 : List Nat := List.replicate 64 0
theorem info_w64 : (Tryd.prog.info? 132).map (fun i => (i.zero, i.size)) = some (some (.agg (bC z64)), 64) := by kernel_rfl
theorem bC_one (l : List Nat) : (bC l).all (·.oneCell') = true := all_oneCell_toArray (fun x hx => by obtain ⟨_, _, rfl⟩ := List.mem_map.1 hx; rfl)
theorem w64_size {l : List Nat} (h : l.length = 64) : (Tryd.prog.info? 132).map (·.size) = some (bC l).size := by
  have := info_w64
  rw [bC_size, h]
  cases hx : Tryd.prog.info? 132 with
  | none => rw [hx] at this; cases this
  | some i => rw [hx] at this; simp at this ⊢; exact this.2
theorem K_length : Sha.K.length = 64 := by decide

set_option maxRecDepth 100000 in
theorem keys_any (w : World) : Calls Tryd.prog 83 #[] w fun e w' => e = .returned (.agg (bC Sha.K)) ∧ Below w.heap.size w w' := by
  have hz := (zero_of_info info_w64).1
  have hth : (w.alloc (.cells (bC z64) 132)).there w.heap.size 0 (bC Sha.K).size := by
    rw [bC_size, K_length]; exact there_of (l := z64.map u32V) (heap_alloc_last w _) (by simp [z64])
  have HTH := Lib.hid hth
  clear hth
  go_enter Tryd.func83, Tryd.ntmps83
  go_wp2_with (first
    | refine wpList_build_at rfl 132 #[(0, .const (.int .u32 1116352408)), (1, .const (.int .u32 1899447441)), (2, .const (.int .u32 3049323471)), (3, .const (.int .u32 3921009573)), (4, .const (.int .u32 961987163)), (5, .const (.int .u32 1508970993)), (6, .const (.int .u32 2453635748)), (7, .const (.int .u32 2870763221)), (8, .const (.int .u32 3624381080)), (9, .const (.int .u32 310598401)), (10, .const (.int .u32 607225278)), (11, .const (.int .u32 1426881987)), (12, .const (.int .u32 1925078388)), (13, .const (.int .u32 2162078206)), (14, .const (.int .u32 2614888103)), (15, .const (.int .u32 3248222580)), (16, .const (.int .u32 3835390401)), (17, .const (.int .u32 4022224774)), (18, .const (.int .u32 264347078)), (19, .const (.int .u32 604807628)), (20, .const (.int .u32 770255983)), (21, .const (.int .u32 1249150122)), (22, .const (.int .u32 1555081692)), (23, .const (.int .u32 1996064986)), (24, .const (.int .u32 2554220882)), (25, .const (.int .u32 2821834349)), (26, .const (.int .u32 2952996808)), (27, .const (.int .u32 3210313671)), (28, .const (.int .u32 3336571891)), (29, .const (.int .u32 3584528711)), (30, .const (.int .u32 113926993)), (31, .const (.int .u32 338241895)), (32, .const (.int .u32 666307205)), (33, .const (.int .u32 773529912)), (34, .const (.int .u32 1294757372)), (35, .const (.int .u32 1396182291)), (36, .const (.int .u32 1695183700)), (37, .const (.int .u32 1986661051)), (38, .const (.int .u32 2177026350)), (39, .const (.int .u32 2456956037)), (40, .const (.int .u32 2730485921)), (41, .const (.int .u32 2820302411)), (42, .const (.int .u32 3259730800)), (43, .const (.int .u32 3345764771)), (44, .const (.int .u32 3516065817)), (45, .const (.int .u32 3600352804)), (46, .const (.int .u32 4094571909)), (47, .const (.int .u32 275423344)), (48, .const (.int .u32 430227734)), (49, .const (.int .u32 506948616)), (50, .const (.int .u32 659060556)), (51, .const (.int .u32 883997877)), (52, .const (.int .u32 958139571)), (53, .const (.int .u32 1322822218)), (54, .const (.int .u32 1537002063)), (55, .const (.int .u32 1747873779)), (56, .const (.int .u32 1955562222)), (57, .const (.int .u32 2024104815)), (58, .const (.int .u32 2227730452)), (59, .const (.int .u32 2361852424)), (60, .const (.int .u32 2428436474)), (61, .const (.int .u32 2756734187)), (62, .const (.int .u32 3204031479)), (63, .const (.int .u32 3329325298))] rfl (bC Sha.K) [(0, .int .u32 1116352408), (1, .int .u32 1899447441), (2, .int .u32 3049323471), (3, .int .u32 3921009573), (4, .int .u32 961987163), (5, .int .u32 1508970993), (6, .int .u32 2453635748), (7, .int .u32 2870763221), (8, .int .u32 3624381080), (9, .int .u32 310598401), (10, .int .u32 607225278), (11, .int .u32 1426881987), (12, .int .u32 1925078388), (13, .int .u32 2162078206), (14, .int .u32 2614888103), (15, .int .u32 3248222580), (16, .int .u32 3835390401), (17, .int .u32 4022224774), (18, .int .u32 264347078), (19, .int .u32 604807628), (20, .int .u32 770255983), (21, .int .u32 1249150122), (22, .int .u32 1555081692), (23, .int .u32 1996064986), (24, .int .u32 2554220882), (25, .int .u32 2821834349), (26, .int .u32 2952996808), (27, .int .u32 3210313671), (28, .int .u32 3336571891), (29, .int .u32 3584528711), (30, .int .u32 113926993), (31, .int .u32 338241895), (32, .int .u32 666307205), (33, .int .u32 773529912), (34, .int .u32 1294757372), (35, .int .u32 1396182291), (36, .int .u32 1695183700), (37, .int .u32 1986661051), (38, .int .u32 2177026350), (39, .int .u32 2456956037), (40, .int .u32 2730485921), (41, .int .u32 2820302411), (42, .int .u32 3259730800), (43, .int .u32 3345764771), (44, .int .u32 3516065817), (45, .int .u32 3600352804), (46, .int .u32 4094571909), (47, .int .u32 275423344), (48, .int .u32 430227734), (49, .int .u32 506948616), (50, .int .u32 659060556), (51, .int .u32 883997877), (52, .int .u32 958139571), (53, .int .u32 1322822218), (54, .int .u32 1537002063), (55, .int .u32 1747873779), (56, .int .u32 1955562222), (57, .int .u32 2024104815), (58, .int .u32 2227730452), (59, .int .u32 2361852424), (60, .int .u32 2428436474), (61, .int .u32 2756734187), (62, .int .u32 3204031479), (63, .int .u32 3329325298)] (by simp [Act.eval]) (by kernel_rfl) ?_
    | refine wpList_store_mid rfl 132 (.tmp 0) (.tmp 1) rfl w.heap.size 0 (bC Sha.K) rfl rfl HTH.out (w64_size K_length) (bC_one _) ?_)
  have hr : ((w.alloc (.cells (bC z64) 132)).setCells w.heap.size 0 (Sha.K.map u32V)).rangeAt w.heap.size 0 (Sha.K.map u32V) := World.rangeAt_setCells_same _ _ _ _ (by have := HTH.out; rw [bC_size] at this; rw [List.length_map]; exact this)
  refine bodyPost_ret (v := .agg (bC Sha.K)) (results_cell (t := 0) (ty := 132) (b := w.heap.size) (cs := Sha.K.map u32V) rfl _ _ _ rfl hr Tryd.underlying132 rfl (by have := w64_size K_length; rw [bC_size] at this; rw [List.length_map]; exact this)) rfl ⟨rfl, ?_⟩
  exact below_setCells (Nat.le_refl _) _ _ _ ((Below.refl _ _).alloc (Nat.le_refl _) _)

theorem rstart_any (w : World) : Calls Tryd.prog 64 #[] w fun e w' => e = .returned (.agg (vC Sha.start)) ∧ Below w.heap.size w w' := by
  go_enter Tryd.func64, Tryd.ntmps64
  go_wp2
  refine bodyPost_ret (v := .agg (vC Sha.start)) (by simp [results, Tryd.results64, go_sem, vC, Sha.start]) rfl ⟨rfl, ?_⟩
  exact (Below.refl _ _).alloc (Nat.le_refl _) _
end Go.Proofs.YtollcdalokhjaaaDoor
/-! ## The document's own words on a block (scriniumref02): what its Step tells is what the program's tells. -/
namespace Go.Proofs.YtollcdalokhjaaaDoor
open Go.RowKit

/-- The blocks of the call: the state, the block, the result, the numbers K, the numbers W. -/
def Lay (w : World) (v : Sha.V) (B : List Nat) (q5 q6 : Nat) (L : List Nat) (wr : World) : Prop :=
  wr.heap[w.heap.size]? = some (.cells (bC v.list) 112 (0, 0)) ∧ wr.heap[w.heap.size + 1]? = some (.cells (bC B) 114 (0, 0)) ∧ wr.heap[w.heap.size + 2]? = some (.cells zC 112 (0, 0))
    ∧ wr.heap[q5]? = some (.cells (bC Sha.K) 132 (0, 0)) ∧ wr.heap[q6]? = some (.cells (bC L) 132 (0, 0)) ∧ Below w.heap.size w wr
/-- Ahead of number t. -/
def WsRel (w : World) (v : Sha.V) (B : List Nat) (q5 q6 : Nat) (st : Value) (wr : World) : Prop :=
  ∃ t : Nat, t ≤ 64 ∧ st = .int .i64 t ∧ Lay w v B q5 q6 ((Sha.ws B).take t ++ List.replicate (64 - t) 0) wr
/-- Ahead of round t: the state lies in block q. -/
def RoundRel (w : World) (v : Sha.V) (B : List Nat) (q5 q6 q : Nat) (st : Value) (wr : World) : Prop :=
  ∃ t : Nat, t ≤ 64 ∧ st = .int .i64 t ∧ Lay w v B q5 q6 (Sha.ws B) wr ∧ wr.heap[q]? = some (.cells (vC (Sha.rounds v B t)) 112 (0, 0))
/-- Ahead of number i of the sum. -/
def PlusRel (w : World) (v u : Sha.V) (q : Nat) (st : Value) (wr : World) : Prop :=
  ∃ i : Nat, i ≤ 8 ∧ st = .int .i64 i ∧ wr.heap[w.heap.size]? = some (.cells (bC v.list) 112 (0, 0)) ∧ wr.heap[w.heap.size + 2]? = some (.cells zC 112 (0, 0)) ∧ wr.heap[q]? = some (.cells (bC ((v.plus u).list.take i ++ u.list.drop i)) 112 (0, 0)) ∧ Below w.heap.size w wr
theorem plus_step (v u : Sha.V) (i : Nat) (h : i < 8) : ((v.plus u).list.take i ++ u.list.drop i).set i ((u.list.getD i 0 + v.list.getD i 0) % 4294967296) = (v.plus u).list.take (i + 1) ++ u.list.drop (i + 1) := by
  match i, h with
  | 0, _ | 1, _ | 2, _ | 3, _ | 4, _ | 5, _ | 6, _ | 7, _ => simp [Sha.V.list, Sha.V.plus, Nat.add_comm]
  | _ + 8, h => exact absurd h (by omega)
theorem plus_at (v u : Sha.V) (i : Nat) (h : i < 8) : ((v.plus u).list.take i ++ u.list.drop i).getD i 0 = u.list.getD i 0 ∧ ((v.plus u).list.take i ++ u.list.drop i).length = 8 := by
  match i, h with
  | 0, _ | 1, _ | 2, _ | 3, _ | 4, _ | 5, _ | 6, _ | 7, _ => exact ⟨rfl, rfl⟩
  | _ + 8, h => exact absurd h (by omega)

theorem t1_form2 (h e f g k w : Nat) (he : e < 4294967296) (hf : f < 4294967296) (hg : g < 4294967296) :
    (((h : Int) + bits .xor .u32 (bits .xor .u32 (Sha.rotr 6 e : Nat) (Sha.rotr 11 e : Nat)) (Sha.rotr 25 e : Nat) + bits .xor .u32 (bits .and .u32 (e : Nat) (f : Nat)) (bits .and .u32 (bits .xor .u32 (if IntKind.u32.signed = true then -1 else IntKind.u32.max) (e : Nat)) (g : Nat)) + (k : Int)) % 4294967296 + (w : Int)) % 4294967296 = (Sha.t1 h e f g k w : Nat) := by
  rw [Int.emod_add_emod]
  exact t1_form h e f g k w he hf hg
/-- The eight cells of a state, one by one, over another state. -/
theorem put8v {q : Nat} {w : World} (V u : Sha.V) (h : w.heap[q]? = some (.cells (vC V) 112 (0, 0))) : ((((((((w.setCell ⟨q, 0, none⟩ (.int .u32 u.a)).setCell ⟨q, 1, none⟩ (.int .u32 u.b)).setCell ⟨q, 2, none⟩ (.int .u32 u.c)).setCell ⟨q, 3, none⟩ (.int .u32 u.d)).setCell ⟨q, 4, none⟩ (.int .u32 u.e)).setCell ⟨q, 5, none⟩ (.int .u32 u.f)).setCell ⟨q, 6, none⟩ (.int .u32 u.g)).setCell ⟨q, 7, none⟩ (.int .u32 u.h)).heap[q]? = some (.cells (vC u) 112 (0, 0)) := by
  have := heap_setCells q 112 (vC u).toList 0 (vC V).toList w (by simp [vC]) h
  refine Eq.trans ?_ this |>.trans ?_
  · rfl
  · simp [vC]

set_option maxHeartbeats 8000000 in
set_option maxRecDepth 100000 in
theorem refStep_any (v : Sha.V) (B : List Nat) (w : World) (hl : B.length = 16) (hv : v.ok) (hb : ∀ x ∈ B, x < 4294967296) :
    Calls Tryd.prog 65 #[.agg (vC v), .agg (bC B)] w fun e w' => e = .returned (.agg (vC (Sha.step v B))) ∧ Below w.heap.size w w' := by
  have Hl := Lib.hid hl
  have Hb := Lib.hid hb
  have Hv := Lib.hid hv
  rw [vC_eq v]
  clear hl hb hv
  have hz := (zero_of_info info_w64).1
  go_enter Tryd.func65, Tryd.ntmps65
  go_upto_region 1 with (fail)
  obtain ⟨w0, hw0⟩ : ∃ w0, w0 = ((w.alloc (.cells (bC v.list) 112)).alloc (.cells (bC B) 114)).alloc (.cells zC 112) := ⟨_, rfl⟩
  have g2 : w0.heap[w.heap.size]? = some (.cells (bC v.list) 112 (0, 0)) := by rw [hw0]; exact (Below.heap_alloc _ _ _ (by simp; omega)).trans ((Below.heap_alloc _ _ _ (by simp)).trans (heap_alloc_last w _))
  have g3 : w0.heap[w.heap.size + 1]? = some (.cells (bC B) 114 (0, 0)) := by
    rw [hw0]
    have := heap_alloc_last (w.alloc (.cells (bC v.list) 112)) (.cells (bC B) 114)
    simp only [World.size_alloc] at this
    exact (Below.heap_alloc _ _ _ (by simp)).trans this
  have g4 : w0.heap[w.heap.size + 2]? = some (.cells zC 112 (0, 0)) := by
    rw [hw0]
    have := heap_alloc_last ((w.alloc (.cells (bC v.list) 112)).alloc (.cells (bC B) 114)) (.cells zC 112)
    simp only [World.size_alloc] at this
    exact this
  have b0 : Below w.heap.size w w0 := by rw [hw0]; exact (((Below.refl _ _).alloc (Nat.le_refl _) _).alloc (by simp) _).alloc (by simp; omega) _
  have s0 : w0.heap.size = w.heap.size + 3 := by rw [hw0]; simp
  change Code.wp _ _ _ _ (((w.alloc (.cells (bC v.list) 112)).alloc (.cells (bC B) 114)).alloc (.cells zC 112))
  rw [← hw0]
  have G2 := Lib.hid g2
  have G3 := Lib.hid g3
  have G4 := Lib.hid g4
  have S0 := Lib.hid s0
  clear hw0 g2 g3 g4 s0
  have hth : ∀ W : World, (W.alloc (.cells (bC z64) 132)).there W.heap.size 0 (bC Sha.K).size := fun W => by
    rw [bC_size, K_length]; exact there_of (l := z64.map u32V) (heap_alloc_last W _) (by simp [z64])
  have HTH := Lib.hid hth
  clear hth
  go_upto_region 2 with (first
    | (go_at_call 83; refine (keys_any _).mono ?_; rintro e w1 ⟨rfl, b1⟩)
    | refine wpList_store_mid rfl 132 (.tmp 5) (.tmp 19) rfl w1.heap.size 0 (bC Sha.K) rfl rfl (HTH.out w1) (w64_size K_length) (bC_one _) ?_)
  obtain ⟨w2, hw2⟩ : ∃ w2, w2 = (w1.alloc (.cells (bC z64) 132)).setCells w1.heap.size 0 (Sha.K.map u32V) := ⟨_, rfl⟩
  have b2 : Below w1.heap.size w1 w2 := by rw [hw2]; exact below_setCells (Nat.le_refl _) _ _ _ ((Below.refl _ _).alloc (Nat.le_refl _) _)
  have g5 : w2.heap[w1.heap.size]? = some (.cells (bC Sha.K) 132 (0, 0)) := by
    rw [hw2]; exact heap_setCells_all w1 (z64.map u32V) (Sha.K.map u32V) (by rw [List.length_map, List.length_map, K_length]; simp [z64])
  change Code.wp _ _ _ _ ((w1.alloc (.cells (bC z64) 132)).setCells w1.heap.size 0 (Sha.K.map u32V))
  rw [← hw2]
  have l5 : w1.heap.size < w2.heap.size := (Array.getElem?_eq_some_iff.1 g5).1
  have l1 : w.heap.size + 3 ≤ w1.heap.size := by have := S0.out; have := b1.size; omega
  have G5 := Lib.hid g5
  clear hw2 g5 HTH
  go_upto_region 3 with (fail)
  obtain ⟨w3, hw3⟩ : ∃ w3, w3 = w2.alloc (.cells (bC z64) 132) := ⟨_, rfl⟩
  have b3 : Below w2.heap.size w2 w3 := by rw [hw3]; exact (Below.refl _ _).alloc (Nat.le_refl _) _
  have g6 : w3.heap[w2.heap.size]? = some (.cells (bC z64) 132 (0, 0)) := by rw [hw3]; exact heap_alloc_last w2 _
  rw [← hw3]
  have bk : ∀ q, q < w.heap.size + 3 → w3.heap[q]? = w0.heap[q]? := fun q hq => (b3.block _ (by omega)).trans ((b2.block _ (by omega)).trans (b1.block _ (by have := S0.out; omega)))
  have lay0 : Lay w v B w1.heap.size w2.heap.size ((Sha.ws B).take 0 ++ List.replicate (64 - 0) 0) w3 := ⟨(bk _ (by omega)).trans G2.out, (bk _ (by omega)).trans G3.out, (bk _ (by omega)).trans G4.out, (b3.block _ l5).trans G5.out, g6, below_step (below_step (below_step b0 (Nat.le_refl _) b1) (Nat.le_refl _) b2) (Nat.le_refl _) b3⟩
  have LAY := Lib.hid lay0
  clear hw3 g6 bk lay0 hz G2 G3 G4 G5 b0 b1 b2 b3
  have l56 : w1.heap.size < w2.heap.size := l5
  clear l5
  generalize w1.heap.size = q5 at *
  generalize w2.heap.size = q6 at *
  go_wp2
  go_loopw [7] (WsRel w v B q5 q6) (fun i _ => 64 - (intOf i).toNat)
  case atStart => exact ⟨0, by omega, rfl, LAY.out⟩
  case round =>
    clear LAY
    obtain ⟨t, ht, rfl, g2, g3, g4, g5, g6, hbl⟩ := hrel
    by_cases hlt : t < 64
    · have hwl := Sha.ws_length B Hl.out
      by_cases h16 : t < 16
      · have ht64 : (t : Int) < 64 := by omega
        have ht16 : (t : Int) < 16 := by omega
        have cb := cell_bC g3 t (by rw [Hl.out]; exact h16)
        have cw := cell_bC g6 t (by rw [Sha.fill_length _ t 64 (by omega) hwl]; exact hlt)
        have fw := fz_of g6 t
        have st := Sha.fill_set (Sha.ws B) t 64 (by omega) hwl
        rw [Sha.ws_small B Hl.out t h16] at st
        generalize B.getD t 0 = x at *
        have H2 := Lib.hid g2
        have H3 := Lib.hid g3
        have H4 := Lib.hid g4
        have H5 := Lib.hid g5
        have H6 := Lib.hid g6
        have ST := Lib.hid st
        have HWL := Lib.hid hwl
        clear g2 g3 g4 g5 g6 st hwl
        go_wp2
        refine ⟨⟨t + 1, by omega, by go_num, (heap_far (by omega) _).trans H2.out, (heap_far (by omega) _).trans H3.out, (heap_far (by omega) _).trans H4.out, (heap_far (by omega) _).trans H5.out, ?_, hbl.setCell (by show w.heap.size ≤ q6; omega) _⟩, by simp [intOf]; omega⟩
        rw [heap_set H6.out, bC_set, ST.out]
      · obtain ⟨u2, e2, k2, hu2⟩ := sub_nat t 2 2 rfl (by omega) hlt
        obtain ⟨u7, e7, k7, hu7⟩ := sub_nat t 7 7 rfl (by omega) hlt
        obtain ⟨u15, e15, k15, hu15⟩ := sub_nat t 15 15 rfl (by omega) hlt
        obtain ⟨u16, e16, k16, hu16⟩ := sub_nat t 16 16 rfl (by omega) hlt
        have hlen := Sha.fill_length (Sha.ws B) t 64 (by omega) hwl
        have c2 := cell_bC g6 u2 (by omega)
        have c7 := cell_bC g6 u7 (by omega)
        have c15 := cell_bC g6 u15 (by omega)
        have c16 := cell_bC g6 u16 (by omega)
        have cw := cell_bC g6 t (by omega)
        rw [Sha.fill_at _ t 64 u2 (by omega) (by omega)] at c2
        rw [Sha.fill_at _ t 64 u7 (by omega) (by omega)] at c7
        rw [Sha.fill_at _ t 64 u15 (by omega) (by omega)] at c15
        rw [Sha.fill_at _ t 64 u16 (by omega) (by omega)] at c16
        have fw := fz_of g6 t
        have st := Sha.fill_set (Sha.ws B) t 64 (by omega) hwl
        rw [Sha.ws_big B Hl.out t (by omega) hlt, ← hu2, ← hu7, ← hu15, ← hu16] at st
        have lx2 := Sha.ws_lt B Hl.out Hb.out u2
        have lx7 := Sha.ws_lt B Hl.out Hb.out u7
        have lx15 := Sha.ws_lt B Hl.out Hb.out u15
        have lx16 := Sha.ws_lt B Hl.out Hb.out u16
        generalize (Sha.ws B).getD u2 0 = X2 at *
        generalize (Sha.ws B).getD u7 0 = X7 at *
        generalize (Sha.ws B).getD u15 0 = X15 at *
        generalize (Sha.ws B).getD u16 0 = X16 at *
        have z0 := s0_form X15 lx15
        have z1 := s1_form X2 lx2
        have bu2 : u2 < 64 := by omega
        have bu7 : u7 < 64 := by omega
        have bu15 : u15 < 64 := by omega
        have bu16 : u16 < 64 := by omega
        have H2 := Lib.hid g2
        have H3 := Lib.hid g3
        have H4 := Lib.hid g4
        have H5 := Lib.hid g5
        have H6 := Lib.hid g6
        have ST := Lib.hid st
        have HWL := Lib.hid hwl
        have HLEN := Lib.hid hlen
        clear g2 g3 g4 g5 g6 st hwl hlen hu2 hu7 hu15 hu16
        go_wp2_with (go_at_call 84; refine (rref_any _ _ _ (by unfold Turn; decide) (by assumption)).mono ?_; rintro e w' ⟨rfl, rfl⟩)
        go_region
        all_goals (
          go_wp2
          refine ⟨⟨t + 1, by omega, by go_num, (heap_far (w := wr) (by omega) _).trans H2.out, (heap_far (w := wr) (by omega) _).trans H3.out, (heap_far (w := wr) (by omega) _).trans H4.out, (heap_far (w := wr) (by omega) _).trans H5.out, ?_, ?_⟩, by simp [intOf]; omega⟩
          · refine (heap_set (w := wr) H6.out _).trans ?_
            have ev : ((Sha.s1 X2 : Nat) + (X7 : Int) + (Sha.s0 X15 : Nat) + (X16 : Int)) % 4294967296 = (((Sha.s1 X2 + X7 + Sha.s0 X15 + X16) % 4294967296 : Nat) : Int) := by omega
            rw [ev, bC_set, ST.out]
          · have := hbl.setCell (p := ⟨q6, t, none⟩) (by show w.heap.size ≤ q6; omega) (.int .u32 (((Sha.s1 X2 : Nat) + (X7 : Int) + (Sha.s0 X15 : Nat) + (X16 : Int)) % 4294967296))
            exact ⟨this.os, this.tape, this.output, this.size, this.block⟩)
    · obtain rfl : 64 = t := by omega
      have hwl := Sha.ws_length B Hl.out
      rw [List.take_of_length_le (by omega), Nat.sub_self, List.replicate_zero, List.append_nil] at g6
      have lay : Lay w v B q5 q6 (Sha.ws B) wr := ⟨g2, g3, g4, g5, g6, hbl⟩
      have LAY := Lib.hid lay
      have c0 := cell_of g2 0
      have c1 := cell_of g2 1
      have c2 := cell_of g2 2
      have c3 := cell_of g2 3
      have c4 := cell_of g2 4
      have c5 := cell_of g2 5
      have c6 := cell_of g2 6
      have c7 := cell_of g2 7
      simp only [← vC_eq, vC, List.getElem?_toArray, List.getElem?_cons_zero, List.getElem?_cons_succ] at c0 c1 c2 c3 c4 c5 c6 c7
      have hq : q6 < wr.heap.size := (Array.getElem?_eq_some_iff.1 g6).1
      clear g2 g3 g4 g5 g6 lay hlt ht
      go_upto_region 14 with (fail)
      obtain ⟨w4, hw4⟩ : ∃ w4, w4 = wr.alloc (.cells (vC v) 112) := ⟨_, rfl⟩
      have b4 : Below wr.heap.size wr w4 := by rw [hw4]; exact (Below.refl _ _).alloc (Nat.le_refl _) _
      have h4 : w4.heap[wr.heap.size]? = some (.cells (vC v) 112 (0, 0)) := by rw [hw4]; exact heap_alloc_last wr _
      have lay4 : Lay w v B q5 q6 (Sha.ws B) w4 := by
        obtain ⟨g2, g3, g4, g5, g6, gb⟩ := LAY.out
        exact ⟨(b4.block _ (by omega)).trans g2, (b4.block _ (by omega)).trans g3, (b4.block _ (by omega)).trans g4, (b4.block _ (by omega)).trans g5, (b4.block _ hq).trans g6, below_step gb (Nat.le_refl _) b4⟩
      change Code.wp _ _ _ _ (wr.alloc (.cells (vC v) 112))
      rw [← hw4]
      have LAY4 := Lib.hid lay4
      have H4 := Lib.hid h4
      clear hw4 lay4 h4 b4 c0 c1 c2 c3 c4 c5 c6 c7 LAY hbl
      generalize wr.heap.size = q at *
      clear wr
      simp only [Int.cast_ofNat_Int]
      go_wp2
      go_loopw [13] (RoundRel w v B q5 q6 q) (fun i _ => 64 - (intOf i).toNat)
      case atStart => exact ⟨0, by omega, rfl, LAY4.out, H4.out⟩
      case round =>
        clear LAY4 H4
        obtain ⟨t, ht, rfl, ⟨g2, g3, g4, g5, g6, hbl⟩, gq⟩ := hrel
        have hok := Sha.rounds_ok Hv.out B t
        have hstep := Sha.rounds_step v B Hl.out t
        generalize hva : Sha.rounds v B t = V at *
        by_cases hlt : t < 64
        · have HST := Lib.hid (hstep hlt)
          have c0 := cell_of gq 0
          have c1 := cell_of gq 1
          have c2 := cell_of gq 2
          have c3 := cell_of gq 3
          have c4 := cell_of gq 4
          have c5 := cell_of gq 5
          have c6 := cell_of gq 6
          have c7 := cell_of gq 7
          have f0 := fz_of gq 0
          have f1 := fz_of gq 1
          have f2 := fz_of gq 2
          have f3 := fz_of gq 3
          have f4 := fz_of gq 4
          have f5 := fz_of gq 5
          have f6 := fz_of gq 6
          have f7 := fz_of gq 7
          have ck := cell_bC g5 t (by rw [K_length]; exact hlt)
          have cw := cell_bC g6 t (by rw [Sha.ws_length B Hl.out]; exact hlt)
          have lk := Sha.K_lt t
          have lw := Sha.ws_lt B Hl.out Hb.out t
          simp only [vC, List.getElem?_toArray, List.getElem?_cons_zero, List.getElem?_cons_succ] at c0 c1 c2 c3 c4 c5 c6 c7
          have GQ := Lib.hid gq
          have H2 := Lib.hid g2
          have H3 := Lib.hid g3
          have H4 := Lib.hid g4
          have H5 := Lib.hid g5
          have H6 := Lib.hid g6
          have HVA := Lib.hid hva
          have ht64 : (t : Int) < 64 := by omega
          clear gq g2 g3 g4 g5 g6 hstep hva
          obtain ⟨a, b, c, d, e, f, g, y⟩ := V
          obtain ⟨ha, hb, hc, hd, he, hf, hg, hy⟩ := hok
          simp only at ha hb hc hd he hf hg hy c0 c1 c2 c3 c4 c5 c6 c7
          generalize (Sha.ws B).getD t 0 = W at *
          generalize Sha.K.getD t 0 = kt at *
          go_wp2
          go_quiet ((go_at_call 84; exact quiet_left (rref_any _ _ _ (by unfold Turn; decide) (by assumption))))
          go_upto_region 20 with (fail)
          rw [t1_form2 _ _ _ _ _ _ he hf hg]
          obtain ⟨T1, hT1⟩ : ∃ T1, T1 = Sha.t1 y e f g kt W := ⟨_, rfl⟩
          have lt1 : T1 < 4294967296 := by rw [hT1]; exact Nat.mod_lt _ (by decide)
          rw [← hT1]
          have HT1 := Lib.hid hT1
          clear hT1
          have HC : Hid (∀ k, k < wr.heap.size → (wr.drewN nq).heap[k]? = wr.heap[k]?) := Lib.hid fun _ _ => rfl
          have hb5 := below_drewN hbl nq
          rw [← cell_drewN wr nq] at c0 c1 c2 c3 c4 c5 c6 c7 ck cw
          rw [← frozen_drewN wr nq] at f0 f1 f2 f3 f4 f5 f6 f7
          have K2 : Hid ((wr.drewN nq).heap[w.heap.size]? = _) := Lib.hid H2.out
          have K3 : Hid ((wr.drewN nq).heap[w.heap.size + 1]? = _) := Lib.hid H3.out
          have K4 : Hid ((wr.drewN nq).heap[w.heap.size + 2]? = _) := Lib.hid H4.out
          have K5 : Hid ((wr.drewN nq).heap[q5]? = _) := Lib.hid H5.out
          have K6 : Hid ((wr.drewN nq).heap[q6]? = _) := Lib.hid H6.out
          have KQ : Hid ((wr.drewN nq).heap[q]? = _) := Lib.hid GQ.out
          clear H2 H3 H4 H5 H6 GQ HC hbl
          generalize wr.drewN nq = w5 at *
          go_wp2
          go_quiet ((go_at_call 84; exact quiet_left (rref_any _ _ _ (by unfold Turn; decide) (by assumption))))
          go_upto_region 21 with (fail)
          rw [t2_form _ _ _ ha hb hc]
          obtain ⟨T2, hT2⟩ : ∃ T2, T2 = Sha.t2 a b c := ⟨_, rfl⟩
          have lt2 : T2 < 4294967296 := by rw [hT2]; exact Nat.mod_lt _ (by decide)
          rw [← hT2]
          have HT2 := Lib.hid hT2
          clear hT2
          go_wp2
          have oo : Only q w5 ((((((((((w5.drewN nq).setCell ⟨q, 0, none⟩ (.int .u32 (((T1 : Int) + (T2 : Int)) % 4294967296))).setCell ⟨q, 1, none⟩ (.int .u32 a)).setCell ⟨q, 2, none⟩ (.int .u32 b)).setCell ⟨q, 3, none⟩ (.int .u32 c)).setCell ⟨q, 4, none⟩ (.int .u32 (((d : Int) + (T1 : Int)) % 4294967296))).setCell ⟨q, 5, none⟩ (.int .u32 e)).setCell ⟨q, 6, none⟩ (.int .u32 f)).setCell ⟨q, 7, none⟩ (.int .u32 g))) :=
            (((((((Only.setCell (b := q) (u := w5) (w := w5.drewN nq) ⟨rfl, rfl, rfl, Nat.le_refl _, fun _ _ _ => rfl⟩ 0 _).setCell 1 _).setCell 2 _).setCell 3 _).setCell 4 _).setCell 5 _).setCell 6 _).setCell 7 _
          have hq5 : q < w5.heap.size := (Array.getElem?_eq_some_iff.1 KQ.out).1
          refine ⟨⟨t + 1, by omega, by go_num, ⟨(oo.block _ (by omega) (by omega)).trans K2.out, (oo.block _ (by omega) (by omega)).trans K3.out, (oo.block _ (by omega) (by omega)).trans K4.out, (oo.block _ (by omega) (by omega)).trans K5.out, (oo.block _ (by omega) (by omega)).trans K6.out, hb5.trans (oo.below (by omega) hb5.size)⟩, ?_⟩, by simp [intOf]; omega⟩
          rw [HST.out]
          obtain rfl := HT1.out
          obtain rfl := HT2.out
          exact put8v (w := w5.drewN nq) _ (Sha.round ⟨a, b, c, d, e, f, g, y⟩ kt W) KQ.out
        · obtain rfl : 64 = t := by omega
          have HVA := Lib.hid hva
          have uok := hok
          have H2 := Lib.hid g2
          have H4 := Lib.hid g4
          have HQ := Lib.hid gq
          clear g2 g3 g4 g5 g6 gq hstep hva hok hlt ht
          have hqr : q < wr.heap.size := (Array.getElem?_eq_some_iff.1 HQ.out).1
          simp only [Int.cast_ofNat_Int]
          go_wp2
          go_loopw [18] (PlusRel w v V q) (fun i _ => 8 - (intOf i).toNat)
          case atStart => exact ⟨0, by omega, rfl, H2.out, H4.out, HQ.out, hbl⟩
          case round =>
            clear H2 H4 HQ hbl
            obtain ⟨i, hi, rfl, g2, g4, gq, hbl⟩ := hrel
            by_cases hlt : i < 8
            · obtain ⟨pa, pl⟩ := plus_at v V i hlt
              have cq := cell_bC gq i (by rw [pl]; exact hlt)
              rw [pa] at cq
              have cs := cell_bC g2 i (by exact hlt)
              have fq := fz_of gq i
              have st := plus_step v V i hlt
              have lx := list_lt V uok i
              have ly := list_lt v Hv.out i
              generalize V.list.getD i 0 = x at *
              generalize v.list.getD i 0 = z at *
              have hi8 : (i : Int) < 8 := by omega
              have H2 := Lib.hid g2
              have H4 := Lib.hid g4
              have HQ := Lib.hid gq
              have ST := Lib.hid st
              clear g2 g4 gq st pa pl
              go_wp2
              go_region
              all_goals (
                go_wp2
                refine ⟨⟨i + 1, by omega, by go_num, (heap_far (w := wr) (by omega) _).trans H2.out, (heap_far (w := wr) (by omega) _).trans H4.out, ?_, ?_⟩, by simp [intOf]; omega⟩
                · refine (heap_set (w := wr) HQ.out _).trans ?_
                  rw [show ((x : Int) + (z : Int)) % 4294967296 = (((x + z) % 4294967296 : Nat) : Int) by omega, bC_set, ST.out]
                · have := hbl.setCell (p := ⟨q, i, none⟩) (by show w.heap.size ≤ q; omega) (.int .u32 (((x : Int) + (z : Int)) % 4294967296))
                  exact ⟨this.os, this.tape, this.output, this.size, this.block⟩)
            · obtain rfl : 8 = i := by omega
              have hst : (v.plus V) = Sha.step v B := by unfold Sha.step; rw [HVA.out]
              have gq' : wr.heap[q]? = some (.cells (vC (Sha.step v B)) 112 (0, 0)) := by rw [gq, ← hst]; rfl
              obtain ⟨S, hS⟩ : ∃ S, S = Sha.step v B := ⟨_, rfl⟩
              rw [← hS] at gq'
              have HS := Lib.hid hS
              clear hS
              have c0 := cell_of gq' 0
              have c1 := cell_of gq' 1
              have c2 := cell_of gq' 2
              have c3 := cell_of gq' 3
              have c4 := cell_of gq' 4
              have c5 := cell_of gq' 5
              have c6 := cell_of gq' 6
              have c7 := cell_of gq' 7
              simp only [vC, List.getElem?_toArray, List.getElem?_cons_zero, List.getElem?_cons_succ] at c0 c1 c2 c3 c4 c5 c6 c7
              obtain ⟨m0, m1, m2, m3, m4, m5, m6, m7, n0, n1, n2, n3, n4, n5, n6, n7⟩ := z8 g4
              have G4 := Lib.hid g4
              clear g2 g4 gq gq' hst
              go_wp2
              have hp8 := put8 S G4.out
              have hr8 : ((((((((wr.setCell ⟨w.heap.size + 2, 0, none⟩ (.int .u32 S.a)).setCell ⟨w.heap.size + 2, 1, none⟩ (.int .u32 S.b)).setCell ⟨w.heap.size + 2, 2, none⟩ (.int .u32 S.c)).setCell ⟨w.heap.size + 2, 3, none⟩ (.int .u32 S.d)).setCell ⟨w.heap.size + 2, 4, none⟩ (.int .u32 S.e)).setCell ⟨w.heap.size + 2, 5, none⟩ (.int .u32 S.f)).setCell ⟨w.heap.size + 2, 6, none⟩ (.int .u32 S.g)).setCell ⟨w.heap.size + 2, 7, none⟩ (.int .u32 S.h)).rangeAt (w.heap.size + 2) 0 (S.list.map u32V) := fun j x hx => by rw [Nat.zero_add, cell_of hp8, vC_eq]; simpa [bC] using hx
              refine bodyPost_ret (v := .agg (vC S)) (results_cell (t := 4) (ty := 112) (b := w.heap.size + 2) (cs := S.list.map u32V) rfl _ _ _ rfl hr8 Tryd.underlying112 rfl (by kernel_rfl)) rfl ⟨by rw [HS.out], ?_⟩
              exact (((((((hbl.setCell (by show w.heap.size ≤ w.heap.size + 2; omega) _).setCell (by show w.heap.size ≤ w.heap.size + 2; omega) _).setCell (by show w.heap.size ≤ w.heap.size + 2; omega) _).setCell (by show w.heap.size ≤ w.heap.size + 2; omega) _).setCell (by show w.heap.size ≤ w.heap.size + 2; omega) _).setCell (by show w.heap.size ≤ w.heap.size + 2; omega) _).setCell (by show w.heap.size ≤ w.heap.size + 2; omega) _).setCell (by show w.heap.size ≤ w.heap.size + 2; omega) _
end Go.Proofs.YtollcdalokhjaaaDoor
/-! ## The document's own words on hashes (scriniumref02): Of, Hex, Bytes. -/
namespace Go.Proofs.YtollcdalokhjaaaDoor
open Go.RowKit

set_option maxHeartbeats 1000000 in
set_option maxRecDepth 100000 in
theorem rbytes_any (l : List UInt8) (w : World) (hl : l.length = 32) :
    Calls Tryd.prog 74 #[sumV l] w fun e w' => e = .returned (.string ⟨l.toArray⟩) ∧ Below w.heap.size w w' := by
  unfold sumV
  have hcv := convert_bytes (w.alloc (.cells (l.map u8V).toArray 33)) w.heap.size 32 32 l hl (cell_u8 (heap_alloc_last w _))
  clear hl
  go_enter Tryd.func74, Tryd.ntmps74
  go_wp2
  go_ret
  exact ⟨rfl, (Below.refl _ _).alloc (Nat.le_refl _) _⟩

/-- Ahead of byte k of the hash: its digits so far. -/
def RHexRel (p : Nat) (l : List UInt8) (w : World) (st si : Value) (wr : World) : Prop :=
  ∃ k : Nat, ∃ S : ByteArray, k ≤ 32 ∧ si = .int .i64 k ∧ st = .string S ∧ S.data.toList = Sha.hexL (l.take k) ∧ wr.heap[p]? = some (.cells (l.map u8V).toArray 33 (0, 0)) ∧ Below w.heap.size w wr
theorem digit_slice (x : Nat) (h : x < 16) : ∃ D : ByteArray, (⟨#[48, 49, 50, 51, 52, 53, 54, 55, 56, 57, 97, 98, 99, 100, 101, 102]⟩ : ByteArray).extract x (x + 1) = D ∧ D.data.toList = [Sha.hexD x] ∧ D.size = 1 := by
  refine ⟨_, rfl, ?_, ?_⟩
  · have : ∀ x : Fin 16, ((⟨#[48, 49, 50, 51, 52, 53, 54, 55, 56, 57, 97, 98, 99, 100, 101, 102]⟩ : ByteArray).extract x.val (x.val + 1)).data.toList = [Sha.hexD x.val] := by decide
    exact this ⟨x, h⟩
  · rw [ByteArray.size_extract]
    show min (x + 1) 16 - x = 1
    omega
/-! ### Of -/
/-- Ahead of a byte 0 that is put behind a text of n bytes and the byte 80. -/
def ZRel (s : List UInt8) (st : Value) : Prop :=
  ∃ j : Nat, ∃ S : ByteArray, j ≤ Sha.zeros s.length ∧ st = .string S ∧ S.data.toList = s ++ 128 :: List.replicate j 0
/-- Ahead of byte j of the number of bits. -/
def NRel (s : List UInt8) (w : World) (st si : Value) (wr : World) : Prop :=
  ∃ j : Nat, ∃ S : ByteArray, j ≤ 8 ∧ si = .int .i64 (7 - (j : Int)) ∧ st = .string S ∧ S.data.toList = s ++ 128 :: (List.replicate (Sha.zeros s.length) 0 ++ (Sha.be8 (8 * s.length)).take j) ∧ Below w.heap.size w wr
theorem zeros_mod (n j : Nat) (h : j ≤ Sha.zeros n) : (n + (1 + j)) % 64 = 56 ↔ j = Sha.zeros n := by
  unfold Sha.zeros at *
  omega
theorem be8_step (n j : Nat) (h : j < 8) : (Sha.be8 n).take (j + 1) = (Sha.be8 n).take j ++ [UInt8.ofNat (n / 2 ^ (56 - 8 * j))] := by
  rw [List.take_succ_eq_append_getElem (by rw [Sha.be8_length]; exact h)]
  simp [Sha.be8]
theorem be8_byte (n j : Nat) (h : j < 8) (b : UInt8) (hb : b = UInt8.ofNat (8 * n / 2 ^ (56 - 8 * j))) : (n : Int) * 8 / 2 ^ (8 * (7 - j)) % 256 = (b.toNat : Int) := by
  rw [hb, UInt8.toNat_ofNat', show 56 - 8 * j = 8 * (7 - j) by omega, Nat.mul_comm 8 n]
  simp
/-- Block q holds the state behind the first k blocks of the text T. -/
def BRel (z q : Nat) (T : List UInt8) (w : World) (si : Value) (wr : World) : Prop :=
  ∃ k : Nat, 64 * k ≤ T.length ∧ si = .int .i64 (64 * k : Nat) ∧ wr.heap[q]? = some (.cells (vC (Sha.run Sha.start k T)) 112 (0, 0)) ∧ wr.heap[z]? = some (.cells ((List.replicate 32 (0 : UInt8)).map u8V).toArray 33 (0, 0)) ∧ Below w.heap.size w wr
/-- Ahead of byte i of a block, whose numbers are laid into block C. -/
def CRel (z q C : Nat) (V : Sha.V) (P : List UInt8) (w : World) (si : Value) (wr : World) : Prop :=
  ∃ i : Nat, i ≤ 64 ∧ si = .int .i64 i ∧ wr.heap[C]? = some (.cells (bC (Sha.parts P i)) 114 (0, 0)) ∧ wr.heap[q]? = some (.cells (vC V) 112 (0, 0)) ∧ wr.heap[z]? = some (.cells ((List.replicate 32 (0 : UInt8)).map u8V).toArray 33 (0, 0)) ∧ Below w.heap.size w wr

/-- Ahead of byte i of the hash. -/
def ORel (z q o : Nat) (V : Sha.V) (w : World) (si : Value) (wr : World) : Prop :=
  ∃ i : Nat, i ≤ 32 ∧ si = .int .i64 i ∧ wr.heap[o]? = some (.cells ((V.bytes.take i ++ List.replicate (32 - i) 0).map u8V).toArray 33 (0, 0)) ∧ wr.heap[q]? = some (.cells (vC V) 112 (0, 0))
    ∧ wr.heap[z]? = some (.cells ((List.replicate 32 (0 : UInt8)).map u8V).toArray 33 (0, 0)) ∧ Below w.heap.size w wr

set_option maxHeartbeats 8000000 in
set_option maxRecDepth 100000 in
theorem rof_any (B : ByteArray) (s : List UInt8) (hB : B.data.toList = s) (w : World) (hlen : s.length < 1152921504606846976) :
    Calls Tryd.prog 42 #[.string B] w fun e w' => e = .returned (sumV (Sha.digest s)) ∧ Below w.heap.size w w' := by
  have hsz : B.size = s.length := by rw [Lib.size_eq, hB]
  have HB := Lib.hid hB
  clear hB
  go_enter Tryd.func42, Tryd.ntmps42
  go_upto_region 1 with (fail)
  obtain ⟨w0, hw0⟩ : ∃ w0, w0 = w.alloc (.cells ((List.replicate 32 (0 : UInt8)).map u8V).toArray 33) := ⟨_, rfl⟩
  have b0 : Below w.heap.size w w0 := by rw [hw0]; exact (Below.refl _ _).alloc (Nat.le_refl _) _
  have z0 : w0.heap[w.heap.size]? = some (.cells ((List.replicate 32 (0 : UInt8)).map u8V).toArray 33 (0, 0)) := by rw [hw0]; exact heap_alloc_last w _
  have l0 : w.heap.size < w0.heap.size := (Array.getElem?_eq_some_iff.1 z0).1
  change Code.wp _ _ _ _ (w.alloc (.cells ((List.replicate 32 (0 : UInt8)).map u8V).toArray 33))
  rw [← hw0]
  have Z0 := Lib.hid z0
  clear hw0 z0
  have hz64 : Sha.zeros s.length < 64 := by unfold Sha.zeros; omega
  go_wp2
  go_loop [3] (ZRel s) (fun r => s.length + 1 + Sha.zeros s.length - (match r with | .string R => R.size | _ => 0))
  case atStart => exact ⟨0, _, by omega, rfl, by rw [app_data, HB.out]; rfl⟩
  case round =>
    obtain ⟨j, S, hj, rfl, hS⟩ := hrel
    have hSz : S.size = s.length + (1 + j) := by rw [Lib.size_eq, hS]; simp; omega
    have hm := zeros_mod s.length j hj
    by_cases hlt : j < Sha.zeros s.length
    · have hne : ¬ (S.size : Int) % 64 = 56 := by omega
      have hS63 : S.size < 9223372036854775000 := by omega
      have HS := Lib.hid hS
      have HSz := Lib.hid hSz
      clear hS hm
      go_wp2
      refine ⟨⟨j + 1, _, by omega, rfl, ?_⟩, ?_⟩
      · rw [app_data, HS.out, List.append_assoc, List.cons_append, List.replicate_succ']
      · have h1 := HSz.out
        have h2 : (⟨#[0]⟩ : ByteArray).size = 1 := rfl
        show s.length + 1 + Sha.zeros s.length - (S ++ ⟨#[0]⟩).size < s.length + 1 + Sha.zeros s.length - S.size
        rw [ByteArray.size_append]
        omega
    · obtain rfl : Sha.zeros s.length = j := by omega
      have he : (S.size : Int) % 64 = 56 := by have := hm.2 rfl; omega
      have hS63 : S.size < 9223372036854775000 := by omega
      have HS := Lib.hid hS
      have HSz := Lib.hid hSz
      clear hS hm
      go_wp2
      go_loopw [3, 5] (NRel s w0) (fun _ i _ => ((intOf i) + 1).toNat)
      case atStart => exact ⟨0, S, by omega, by go_num, rfl, by simpa using HS.out, Below.refl _ _⟩
      case round =>
        clear HS HSz he hS63 hlt hj hSz
        obtain ⟨j, S2, hj, rfl, rfl, hS, hbl⟩ := hrel
        have hSz : S2.size = s.length + 1 + Sha.zeros s.length + j := by rw [Lib.size_eq, hS]; simp [Sha.be8_length]; omega
        have hS63 : S2.size < 9223372036854775000 := by omega
        by_cases hlt : j < 8
        · have e7 : (0 : Int) ≤ 7 - (j : Int) := by omega
          have HS := Lib.hid hS
          have HSz := Lib.hid hSz
          clear hS hSz
          have hjj : j = 0 ∨ j = 1 ∨ j = 2 ∨ j = 3 ∨ j = 4 ∨ j = 5 ∨ j = 6 ∨ j = 7 := by omega
          obtain ⟨b, hb⟩ : ∃ b, b = UInt8.ofNat (8 * s.length / 2 ^ (56 - 8 * j)) := ⟨_, rfl⟩
          have hcv := convert_one wr _ b (be8_byte s.length j hlt b hb)
          have hbe := be8_step (8 * s.length) j hlt
          rw [← hb] at hbe
          have HBE := Lib.hid hbe
          have h1 : (⟨#[b]⟩ : ByteArray).size = 1 := rfl
          clear hb hbe hjj
          go_wp2
          refine ⟨⟨j + 1, _, by omega, ?_, rfl, ?_, hbl.alloc hbl.size _⟩, ?_⟩
          · congr 1; omega
          · rw [app_data, HS.out, HBE.out]
            simp
          · simp [intOf]; omega
        · obtain rfl : 8 = j := by omega
          rw [List.take_of_length_le (by rw [Sha.be8_length]; exact Nat.le_refl _)] at hS
          obtain ⟨T, hT⟩ : ∃ T, T = Sha.full s := ⟨_, rfl⟩
          have hST : S2.data.toList = T := by rw [hS, hT]; rfl
          have hTm : T.length % 64 = 0 := by rw [hT]; exact Sha.full_mod s
          have hTl : S2.size = T.length := by rw [Lib.size_eq, hST]
          have HT := Lib.hid hT
          have HST := Lib.hid hST
          have z1 := (hbl.block _ l0).trans Z0.out
          have Z1 := Lib.hid z1
          have bb1 : Below w.heap.size w wr := below_step b0 (Nat.le_refl _) hbl
          have lr0 : w.heap.size < wr.heap.size := Nat.lt_of_lt_of_le l0 hbl.size
          clear hS hT hST z1 hSz Z0 hlt hj
          go_upto_region 10 with (first
            | (go_at_call 64; refine (rstart_any _).mono ?_; rintro e w1 ⟨rfl, b1⟩; unfold vC Sha.start))
          obtain ⟨w2, hw2⟩ : ∃ w2, w2 = w1.alloc (.cells (vC Sha.start) 112) := ⟨_, rfl⟩
          have b2 : Below w1.heap.size w1 w2 := by rw [hw2]; exact (Below.refl _ _).alloc (Nat.le_refl _) _
          have h2 : w2.heap[w1.heap.size]? = some (.cells (vC Sha.start) 112 (0, 0)) := by rw [hw2]; exact heap_alloc_last w1 _
          have l1 : w.heap.size < w1.heap.size := Nat.lt_of_lt_of_le lr0 b1.size
          have z2 := (b2.block _ l1).trans ((b1.block _ lr0).trans Z1.out)
          have bb2 : Below w.heap.size w w2 := below_step (below_step bb1 (Nat.le_refl _) b1) (Nat.le_refl _) b2
          change Code.wp _ _ _ _ (w1.alloc (.cells (vC Sha.start) 112))
          rw [← hw2]
          have H2 := Lib.hid h2
          have Z2 := Lib.hid z2
          clear hw2 h2 z2 Z1 b2 b1 bb1 hbl
          generalize w1.heap.size = q at *
          have HTM := Lib.hid hTm
          clear hTm
          have hTb : T.length < 9223372036854775000 := by omega
          go_wp2
          go_loopw [7] (BRel w.heap.size q T w) (fun i _ => T.length - (intOf i).toNat)
          case atStart => exact ⟨0, by omega, rfl, H2.out, Z2.out, bb2⟩
          case round =>
            clear H2 Z2 bb2
            obtain ⟨k, hk, rfl, hq, hz, hbl⟩ := hrel
            by_cases hlt : 64 * k < T.length
            · have hk64 : 64 * k + 64 ≤ T.length := by have := HTM.out; omega
              obtain ⟨P, hP⟩ : ∃ P, P = (T.drop (64 * k)).take 64 := ⟨_, rfl⟩
              have hPl : P.length = 64 := by rw [hP, List.length_take, List.length_drop]; omega
              have hsn := Sha.run_snoc k Sha.start T
              rw [← hP] at hsn
              have hVok := Sha.run_ok k Sha.start T Sha.start_ok
              generalize Sha.run Sha.start k T = V at *
              have hqr : q < wr.heap.size := (Array.getElem?_eq_some_iff.1 hq).1
              obtain ⟨m, hm⟩ : ∃ m, m = 64 * k := ⟨_, rfl⟩
              rw [← hm] at hlt hk64 hP ⊢
              have hlti : (m : Int) < T.length := by omega
              have HQ := Lib.hid hq
              have HZ := Lib.hid hz
              have HP := Lib.hid hP
              have HPl := Lib.hid hPl
              have HSN := Lib.hid hsn
              have HM := Lib.hid hm
              clear hq hz hP hPl hsn hm hk
              go_upto_region 14 with (fail)
              obtain ⟨w4, hw4⟩ : ∃ w4, w4 = wr.alloc (.cells (bC (Sha.parts P 0)) 114) := ⟨_, rfl⟩
              have b4 : Below wr.heap.size wr w4 := by rw [hw4]; exact (Below.refl _ _).alloc (Nat.le_refl _) _
              have h4 : w4.heap[wr.heap.size]? = some (.cells (bC (Sha.parts P 0)) 114 (0, 0)) := by rw [hw4]; exact heap_alloc_last wr _
              have hw4' : w4 = wr.alloc (.cells (bC [0, 0, 0, 0, 0, 0, 0, 0, 0, 0, 0, 0, 0, 0, 0, 0]) 114) := by rw [hw4, Sha.parts_zero]
              change Code.wp _ _ _ _ (wr.alloc (.cells (bC [0, 0, 0, 0, 0, 0, 0, 0, 0, 0, 0, 0, 0, 0, 0, 0]) 114))
              rw [← hw4']
              have lz : w.heap.size < wr.heap.size := Nat.lt_of_le_of_lt (Nat.le_of_lt l1) hqr
              have H4 := Lib.hid h4
              have HQ4 := Lib.hid ((b4.block _ hqr).trans HQ.out)
              have HZ4 := Lib.hid ((b4.block _ lz).trans HZ.out)
              have bb4 := below_step hbl (Nat.le_refl _) b4
              clear hw4 hw4' h4 HQ HZ hbl b4
              have lC : q < wr.heap.size := hqr
              clear hqr
              generalize wr.heap.size = C at *
              go_wp2
              go_loopw [9] (CRel w.heap.size q C V P w) (fun i _ => 64 - (intOf i).toNat)
              case atStart => exact ⟨0, by omega, rfl, H4.out, HQ4.out, HZ4.out, bb4⟩
              case round =>
                clear H4 HQ4 HZ4 bb4
                obtain ⟨i, hi, rfl, hC, hq, hz, hbi⟩ := hrel
                by_cases hlt2 : i < 64
                · obtain ⟨u, hu⟩ : ∃ u, u = i / 4 := ⟨_, rfl⟩
                  have e4 : (i : Int) / 4 = (u : Int) := by omega
                  have e4' : (i : Int).tdiv 4 = (u : Int) := by rw [Int.tdiv_eq_ediv_of_nonneg (by omega)]; omega
                  have cu := cell_bC hC u (by rw [Sha.parts_length]; omega)
                  have fu := fz_of hC u
                  have sq : (Sha.parts P i).getD u 0 < 16777216 := by rw [Sha.parts_getD P i u (by omega), hu]; exact Sha.part_small P i
                  have ps := Sha.parts_step P i (by rw [HPl.out]; exact hlt2) hlt2
                  rw [← hu] at ps
                  generalize (Sha.parts P i).getD u 0 = N at *
                  have hin : m + i < S2.size := by omega
                  have hini : (m : Int) + (i : Int) < S2.size := by omega
                  have hx : S2[m + i] = P.getD i 0 := by
                    rw [HP.out, List.getD_eq_getElem?_getD, List.getElem?_take_of_lt hlt2, List.getElem?_drop, ← HST.out]
                    have : m + i < S2.data.size := hin
                    rw [Array.getElem?_toList, Array.getElem?_eq_getElem this]
                    rfl
                  have bu : u < 16 := by omega
                  generalize P.getD i 0 = x at *
                  have hx8 : x.toNat < 256 := x.toNat_lt
                  have Hu := Lib.hid hu
                  have HPS := Lib.hid ps
                  have HC := Lib.hid hC
                  have HQ := Lib.hid hq
                  have HZ := Lib.hid hz
                  have hix := index_str S2 (m + i) ((m : Int) + (i : Int)) (by omega) hin x hx
                  clear hu ps hC hq hz hx
                  go_wp2
                  go_region
                  all_goals (
                    go_wp2
                    refine ⟨⟨i + 1, by omega, by go_num, ?_, (heap_far (w := wr) (by omega) _).trans HQ.out, (heap_far (w := wr) (by omega) _).trans HZ.out, ?_⟩, by simp [intOf]; omega⟩
                    · refine (heap_set (w := wr) HC.out _).trans ?_
                      rw [show (N : Int) * 256 + (x.toNat : Int) = ((N * 256 + x.toNat : Nat) : Int) by omega, bC_set, HPS.out]
                    · have := hbi.setCell (p := ⟨C, u, none⟩) (by show w.heap.size ≤ C; omega) (.int .u32 ((N : Int) * 256 + (x.toNat : Int)))
                      exact ⟨this.os, this.tape, this.output, this.size, this.block⟩)
                · obtain rfl : 64 = i := by omega
                  rw [Sha.parts_all] at hC
                  have hwl := Sha.words_lt P
                  have hWl := Sha.words_length P
                  have hrC : wr.rangeAt C 0 ((Sha.words P).map u32V) := fun j x hx => by rw [Nat.zero_add, cell_of hC]; simpa [bC] using hx
                  have hiW : (Tryd.prog.info? 114).map (·.size) = some ((Sha.words P).map u32V).length := by rw [List.length_map, hWl]; exact info_24
                  obtain ⟨U, hU⟩ : ∃ U, U = Sha.step V (Sha.words P) := ⟨_, rfl⟩
                  have c0 := cell_of hq 0
                  have c1 := cell_of hq 1
                  have c2 := cell_of hq 2
                  have c3 := cell_of hq 3
                  have c4 := cell_of hq 4
                  have c5 := cell_of hq 5
                  have c6 := cell_of hq 6
                  have c7 := cell_of hq 7
                  simp only [vC, List.getElem?_toArray, List.getElem?_cons_zero, List.getElem?_cons_succ] at c0 c1 c2 c3 c4 c5 c6 c7
                  have hst := refStep_any V (Sha.words P) wr hWl hVok hwl
                  rw [← hU] at hst
                  unfold vC at hst
                  have HST2 := Lib.hid hst
                  have HRC := Lib.hid hrC
                  have HIW := Lib.hid hiW
                  have HQ := Lib.hid hq
                  have HZ := Lib.hid hz
                  have HU := Lib.hid hU
                  have hqr : q < wr.heap.size := (Array.getElem?_eq_some_iff.1 hq).1
                  clear hC hwl hWl hrC hiW hst hq hz hU
                  simp only [Int.cast_ofNat_Int]
                  go_upto_region 12 with (first
                    | refine wpList_load_mid rfl 114 (.tmp 8) rfl C 0 rfl ((Sha.words P).map u32V) _ HRC.out Tryd.underlying114 rfl HIW.out ?_
                    | (go_at_call 65; refine HST2.out.mono ?_; rintro e w6 ⟨rfl, b6⟩; have q6 := (b6.block _ hqr).trans HQ.out; have k0 := (cell_of q6 0); have k1 := (cell_of q6 1); have k2 := (cell_of q6 2); have k3 := (cell_of q6 3); have k4 := (cell_of q6 4); have k5 := (cell_of q6 5); have k6 := (cell_of q6 6); have k7 := (cell_of q6 7); have f0 := fz_of q6 0; have f1 := fz_of q6 1; have f2 := fz_of q6 2; have f3 := fz_of q6 3; have f4 := fz_of q6 4; have f5 := fz_of q6 5; have f6 := fz_of q6 6; have f7 := fz_of q6 7; have Q6 := Lib.hid q6; clear q6; simp only [vC, List.getElem?_toArray, List.getElem?_cons_zero, List.getElem?_cons_succ] at k0 k1 k2 k3 k4 k5 k6 k7))
                  obtain ⟨w7, hw7⟩ : ∃ w7, w7 = (((((((w6.setCell ⟨q, 0, none⟩ (.int .u32 U.a)).setCell ⟨q, 1, none⟩ (.int .u32 U.b)).setCell ⟨q, 2, none⟩ (.int .u32 U.c)).setCell ⟨q, 3, none⟩ (.int .u32 U.d)).setCell ⟨q, 4, none⟩ (.int .u32 U.e)).setCell ⟨q, 5, none⟩ (.int .u32 U.f)).setCell ⟨q, 6, none⟩ (.int .u32 U.g)).setCell ⟨q, 7, none⟩ (.int .u32 U.h) := ⟨_, rfl⟩
                  have oo : Only q w6 w7 := by rw [hw7]; exact ((((((((Only.refl q w6).setCell 0 _).setCell 1 _).setCell 2 _).setCell 3 _).setCell 4 _).setCell 5 _).setCell 6 _).setCell 7 _
                  have q7 : w7.heap[q]? = some (.cells (vC U) 112 (0, 0)) := by rw [hw7]; exact put8v V U Q6.out
                  rw [← hw7]
                  have bb6 : Below w.heap.size w w6 := below_step hbi (Nat.le_refl _) b6
                  have z7 := (oo.block _ (by have := bb6.size; have := (Array.getElem?_eq_some_iff.1 Q6.out).1; omega) (by omega)).trans ((b6.block _ (Array.getElem?_eq_some_iff.1 HZ.out).1).trans HZ.out)
                  have bb7 : Below w.heap.size w w7 := bb6.trans (oo.below (by omega) bb6.size)
                  have Q7 := Lib.hid q7
                  have Z7 := Lib.hid z7
                  clear hw7 q7 z7 k0 k1 k2 k3 k4 k5 k6 k7 f0 f1 f2 f3 f4 f5 f6 f7 c0 c1 c2 c3 c4 c5 c6 c7
                  go_wp2
                  refine ⟨⟨k + 1, ?_, ?_, ?_, Z7.out, bb7⟩, ?_⟩
                  · have := HM.out; omega
                  · have := HM.out
                    congr 1
                    omega
                  · rw [HSN.out, ← HU.out]; exact Q7.out
                  · have := HM.out; simp [intOf]; omega
            · have hkT : T.length / 64 = k := by have := HTM.out; omega
              have hdig : (Sha.run Sha.start k T).bytes = Sha.digest s := by unfold Sha.digest; rw [← HT.out, hkT]
              have hVok := Sha.run_ok k Sha.start T Sha.start_ok
              generalize Sha.run Sha.start k T = V at *
              have hqr : q < wr.heap.size := (Array.getElem?_eq_some_iff.1 hq).1
              have hlti : ¬ ((64 * k : Nat) : Int) < T.length := by omega
              have HDIG := Lib.hid hdig
              have HQ := Lib.hid hq
              have HZ := Lib.hid hz
              clear hdig hq hz hkT
              obtain ⟨m, hm⟩ : ∃ m, m = 64 * k := ⟨_, rfl⟩
              rw [← hm] at hlti hlt hk ⊢
              clear hm
              go_upto_region 20 with (fail)
              obtain ⟨w4, hw4⟩ : ∃ w4, w4 = wr.alloc (.cells ((List.replicate 32 (0 : UInt8)).map u8V).toArray 33) := ⟨_, rfl⟩
              have b4 : Below wr.heap.size wr w4 := by rw [hw4]; exact (Below.refl _ _).alloc (Nat.le_refl _) _
              have h4 : w4.heap[wr.heap.size]? = some (.cells ((V.bytes.take 0 ++ List.replicate (32 - 0) 0).map u8V).toArray 33 (0, 0)) := by rw [hw4]; exact heap_alloc_last wr _
              change Code.wp _ _ _ _ (wr.alloc (.cells ((List.replicate 32 (0 : UInt8)).map u8V).toArray 33))
              rw [← hw4]
              have lz : w.heap.size < wr.heap.size := (Array.getElem?_eq_some_iff.1 HZ.out).1
              have H4 := Lib.hid h4
              have HQ4 := Lib.hid ((b4.block _ hqr).trans HQ.out)
              have HZ4 := Lib.hid ((b4.block _ lz).trans HZ.out)
              have bb4 := below_step hbl (Nat.le_refl _) b4
              clear hw4 h4 HQ HZ hbl b4
              generalize wr.heap.size = o at *
              go_wp2
              go_loopw [11] (ORel w.heap.size q o V w) (fun i _ => 32 - (intOf i).toNat)
              case atStart => exact ⟨0, by omega, rfl, H4.out, HQ4.out, HZ4.out, bb4⟩
              case round =>
                clear H4 HQ4 HZ4 bb4
                obtain ⟨i, hi, rfl, hh, hq, hzi, hbi⟩ := hrel
                by_cases hlt2 : i < 32
                · obtain ⟨u, hu⟩ : ∃ u, u = i / 4 := ⟨_, rfl⟩
                  obtain ⟨r, hr⟩ : ∃ r, r = i % 4 := ⟨_, rfl⟩
                  have e4 : (i : Int) / 4 = (u : Int) := by omega
                  have er : (i : Int) % 4 = (r : Int) := by omega
                  have bu : u < 8 := by omega
                  have br : r < 4 := by omega
                  have cw : wr.cell? ⟨q, u, none⟩ = some (.int .u32 (V.list.getD u 0 : Nat)) := by rw [cell_of hq]; exact vC_at V u bu
                  have lw := list_lt V hVok u
                  have ey := bytes_at V i hlt2
                  rw [← hu, ← hr] at ey
                  generalize V.list.getD u 0 = x at *
                  have hst := sum_step V i hlt2
                  generalize V.bytes.getD i 0 = y at *
                  have ev : (x : Int) / 2 ^ (24 - 8 * r) % 256 = (y.toNat : Int) := by
                    rw [ey, UInt8.toNat_ofNat']
                    simp
                  have ci : wr.cell? ⟨o, i, none⟩ = some (.int .u8 0) := by
                    have hbl := Sha.bytes_length V
                    rw [cell_of hh, List.getElem?_toArray, List.getElem?_map, List.getElem?_append_right (by rw [List.length_take]; omega), List.length_take, Nat.min_eq_left (by omega), Nat.sub_self, List.getElem?_replicate, if_pos (by omega)]
                    rfl
                  have fi := fz_of hh i
                  have HST2 := Lib.hid hst
                  have HH := Lib.hid hh
                  have HZI := Lib.hid hzi
                  have HQ := Lib.hid hq
                  have hu' := Lib.hid hu
                  have hr' := Lib.hid hr
                  have hey' := Lib.hid ey
                  clear hst hh hu hr ey hzi hq
                  go_wp2
                  refine ⟨⟨i + 1, by omega, by go_num, (heap_set HH.out _).trans (by rw [HST2.out]), (heap_far (by omega) _).trans HQ.out, (heap_far (by omega) _).trans HZI.out, hbi.setCell (by show w.heap.size ≤ o; omega) _⟩, by simp [intOf]; omega⟩
                · obtain rfl : 32 = i := by omega
                  have hbl := Sha.bytes_length V
                  rw [List.take_of_length_le (by omega), Nat.sub_self, List.replicate_zero, List.append_nil, HDIG.out] at hh
                  rw [HDIG.out] at hbl
                  obtain ⟨D, hD⟩ : ∃ D, D = Sha.digest s := ⟨_, rfl⟩
                  rw [← hD] at hh hbl
                  have HD := Lib.hid hD
                  have HBL := Lib.hid hbl
                  have hR : wr.rangeAt o 0 (D.map u8V) := fun j x hx => by rw [Nat.zero_add, cell_of hh]; simpa using hx
                  have HR := Lib.hid hR
                  have HZI := Lib.hid hzi
                  clear hD hbl hR hh hzi HDIG hq
                  go_wp2_with (first
                    | refine wpList_load_mid rfl 33 (.tmp 10) rfl o 0 rfl (D.map u8V) _ HR.out Tryd.underlying33 rfl (sum_info' HBL.out) ?_
                    | refine wpList_store_mid rfl 33 (.tmp 2) (.tmp 84) rfl w.heap.size 0 (D.map u8V).toArray rfl rfl (sum_there HZI.out HBL.out) (sum_info HBL.out) (sum_one D) ?_)
                  exact bodyPost_ret (v := sumV D) (results_cell (t := 2) (ty := 33) (b := w.heap.size) (cs := D.map u8V) rfl _ _ _ rfl (sum_range HZI.out HBL.out) Tryd.underlying33 rfl (sum_info' HBL.out)) rfl ⟨by rw [HD.out], below_setCells (Nat.le_refl _) _ _ _ hbi⟩
end Go.Proofs.YtollcdalokhjaaaDoor
