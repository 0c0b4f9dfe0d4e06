/-
  The document's own words on a block (scriniumref02): Keys, Start, Step.
-/
import Derived.Test.YtgiakpnkidblpaaDoorShaOneA
import Derived.Test.YtgiakpnkidblpaaDoorShaStep
import Derived.Test.YtgiakpnkidblpaaDoorMacMem
namespace Go.Proofs.YtgiakpnkidblpaaDoor
namespace Sha
theorem ws_wl (b : List Nat) (h : b.length = 16) (n j : Nat) (hn : n ≤ 48) (hj : j < 16 + n) : (wl b n).getD j 0 = (ws b).getD (16 + n - 1 - j) 0 := by
  have hl := wl_length b 48
  have hd := wl_drop b n (48 - n)
  rw [show n + (48 - n) = 48 by omega] at hd
  unfold ws
  rw [← hd, List.getD_eq_getElem?_getD, List.getElem?_drop, List.getD_eq_getElem?_getD, List.getElem?_reverse (by omega), hl, h]
  congr 2
  omega
theorem ws_small (b : List Nat) (h : b.length = 16) (t : Nat) (ht : t < 16) : (ws b).getD t 0 = b.getD t 0 := by
  have := ws_wl b h 0 (15 - t) (by omega) (by omega)
  rw [show 16 + 0 - 1 - (15 - t) = t by omega] at this
  rw [← this]
  show b.reverse.getD (15 - t) 0 = _
  rw [List.getD_eq_getElem?_getD, List.getElem?_reverse (by omega), List.getD_eq_getElem?_getD]
  congr 2
  omega
theorem ws_big (b : List Nat) (h : b.length = 16) (t : Nat) (h16 : 16 ≤ t) (ht : t < 64) : (ws b).getD t 0 = (s1 ((ws b).getD (t - 2) 0) + (ws b).getD (t - 7) 0 + s0 ((ws b).getD (t - 15) 0) + (ws b).getD (t - 16) 0) % 4294967296 := by
  obtain ⟨n, rfl⟩ : ∃ n, t = 16 + n := ⟨t - 16, by omega⟩
  have e := ws_wl b h (n + 1) 0 (by omega) (by omega)
  rw [show 16 + (n + 1) - 1 - 0 = 16 + n by omega] at e
  rw [← e, wl, List.getD_cons_zero, ws_wl b h n 1 (by omega) (by omega), ws_wl b h n 6 (by omega) (by omega), ws_wl b h n 14 (by omega) (by omega), ws_wl b h n 15 (by omega) (by omega)]
  rw [show 16 + n - 1 - 1 = 16 + n - 2 by omega, show 16 + n - 1 - 6 = 16 + n - 7 by omega, show 16 + n - 1 - 14 = 16 + n - 15 by omega, show 16 + n - 1 - 15 = 16 + n - 16 by omega]
theorem ws_lt (b : List Nat) (h : b.length = 16) (hb : ∀ x ∈ b, x < 4294967296) (t : Nat) : (ws b).getD t 0 < 4294967296 := by
  by_cases ht : t < 16
  · rw [ws_small b h t ht]; exact getD_lt b hb t
  · by_cases h64 : t < 64
    · rw [ws_big b h t (by omega) h64]; exact Nat.mod_lt _ (by decide)
    · rw [List.getD_eq_getElem?_getD, List.getElem?_eq_none (by rw [ws_length b h]; omega)]; decide
theorem fill_set (l : List Nat) (t n : Nat) (h : t < l.length) (hn : l.length = n) : (l.take t ++ List.replicate (n - t) 0).set t (l.getD t 0) = l.take (t + 1) ++ List.replicate (n - (t + 1)) 0 := by
  subst hn
  rw [List.set_append_right _ _ (by rw [List.length_take]; omega), List.length_take, Nat.min_eq_left (by omega), Nat.sub_self, List.take_succ_eq_append_getElem h, show l.length - t = (l.length - (t + 1)) + 1 by omega, List.replicate_succ, List.set_cons_zero, List.append_assoc]
  have e : l.getD t 0 = l[t] := by rw [List.getD_eq_getElem?_getD, List.getElem?_eq_getElem h]; rfl
  rw [e]
  rfl
theorem fill_at (l : List Nat) (t n i : Nat) (h : i < t) (ht : t ≤ l.length) : (l.take t ++ List.replicate (n - t) 0).getD i 0 = l.getD i 0 := by
  rw [List.getD_eq_getElem?_getD, List.getElem?_append_left (by rw [List.length_take]; omega), List.getElem?_take_of_lt h, List.getD_eq_getElem?_getD]
theorem fill_length (l : List Nat) (t n : Nat) (ht : t ≤ l.length) (hn : l.length = n) : (l.take t ++ List.replicate (n - t) 0).length = n := by
  rw [List.length_append, List.length_take, List.length_replicate]; omega
end Sha
open Go.RowKit

theorem vC_eq (v : Sha.V) : vC v = bC v.list := rfl
def z64 : List Nat := List.replicate 64 0
theorem info_w64 : (Tryd.prog.info? 100).map (fun i => (i.zero, i.size)) = some (some (.agg (bC z64)), 64) := by kernel_rfl
theorem bC_one (l : List Nat) : (bC l).all (·.oneCell') = true := all_oneCell_toArray (fun x hx => by obtain ⟨_, _, rfl⟩ := List.mem_map.1 hx; rfl)
theorem w64_size {l : List Nat} (h : l.length = 64) : (Tryd.prog.info? 100).map (·.size) = some (bC l).size := by
  have := info_w64
  rw [bC_size, h]
  cases hx : Tryd.prog.info? 100 with
  | none => rw [hx] at this; cases this
  | some i => rw [hx] at this; simp at this ⊢; exact this.2
theorem K_length : Sha.K.length = 64 := by decide

set_option maxRecDepth 100000 in
theorem keys_any (w : World) : Calls Tryd.prog 71 #[] w fun e w' => e = .returned (.agg (bC Sha.K)) ∧ Below w.heap.size w w' := by
  have hz := (zero_of_info info_w64).1
  have hth : (w.alloc (.cells (bC z64) 100)).there w.heap.size 0 (bC Sha.K).size := by
    rw [bC_size, K_length]; exact there_of (l := z64.map u32V) (heap_alloc_last w _) (by simp [z64])
  have HTH := Lib.hid hth
  clear hth
  go_enter Tryd.func71, Tryd.ntmps71
  go_wp2_with (first
    | refine wpList_build_at rfl 100 #[(0, .const (.int .u32 1116352408)), (1, .const (.int .u32 1899447441)), (2, .const (.int .u32 3049323471)), (3, .const (.int .u32 3921009573)), (4, .const (.int .u32 961987163)), (5, .const (.int .u32 1508970993)), (6, .const (.int .u32 2453635748)), (7, .const (.int .u32 2870763221)), (8, .const (.int .u32 3624381080)), (9, .const (.int .u32 310598401)), (10, .const (.int .u32 607225278)), (11, .const (.int .u32 1426881987)), (12, .const (.int .u32 1925078388)), (13, .const (.int .u32 2162078206)), (14, .const (.int .u32 2614888103)), (15, .const (.int .u32 3248222580)), (16, .const (.int .u32 3835390401)), (17, .const (.int .u32 4022224774)), (18, .const (.int .u32 264347078)), (19, .const (.int .u32 604807628)), (20, .const (.int .u32 770255983)), (21, .const (.int .u32 1249150122)), (22, .const (.int .u32 1555081692)), (23, .const (.int .u32 1996064986)), (24, .const (.int .u32 2554220882)), (25, .const (.int .u32 2821834349)), (26, .const (.int .u32 2952996808)), (27, .const (.int .u32 3210313671)), (28, .const (.int .u32 3336571891)), (29, .const (.int .u32 3584528711)), (30, .const (.int .u32 113926993)), (31, .const (.int .u32 338241895)), (32, .const (.int .u32 666307205)), (33, .const (.int .u32 773529912)), (34, .const (.int .u32 1294757372)), (35, .const (.int .u32 1396182291)), (36, .const (.int .u32 1695183700)), (37, .const (.int .u32 1986661051)), (38, .const (.int .u32 2177026350)), (39, .const (.int .u32 2456956037)), (40, .const (.int .u32 2730485921)), (41, .const (.int .u32 2820302411)), (42, .const (.int .u32 3259730800)), (43, .const (.int .u32 3345764771)), (44, .const (.int .u32 3516065817)), (45, .const (.int .u32 3600352804)), (46, .const (.int .u32 4094571909)), (47, .const (.int .u32 275423344)), (48, .const (.int .u32 430227734)), (49, .const (.int .u32 506948616)), (50, .const (.int .u32 659060556)), (51, .const (.int .u32 883997877)), (52, .const (.int .u32 958139571)), (53, .const (.int .u32 1322822218)), (54, .const (.int .u32 1537002063)), (55, .const (.int .u32 1747873779)), (56, .const (.int .u32 1955562222)), (57, .const (.int .u32 2024104815)), (58, .const (.int .u32 2227730452)), (59, .const (.int .u32 2361852424)), (60, .const (.int .u32 2428436474)), (61, .const (.int .u32 2756734187)), (62, .const (.int .u32 3204031479)), (63, .const (.int .u32 3329325298))] rfl (bC Sha.K) [(0, .int .u32 1116352408), (1, .int .u32 1899447441), (2, .int .u32 3049323471), (3, .int .u32 3921009573), (4, .int .u32 961987163), (5, .int .u32 1508970993), (6, .int .u32 2453635748), (7, .int .u32 2870763221), (8, .int .u32 3624381080), (9, .int .u32 310598401), (10, .int .u32 607225278), (11, .int .u32 1426881987), (12, .int .u32 1925078388), (13, .int .u32 2162078206), (14, .int .u32 2614888103), (15, .int .u32 3248222580), (16, .int .u32 3835390401), (17, .int .u32 4022224774), (18, .int .u32 264347078), (19, .int .u32 604807628), (20, .int .u32 770255983), (21, .int .u32 1249150122), (22, .int .u32 1555081692), (23, .int .u32 1996064986), (24, .int .u32 2554220882), (25, .int .u32 2821834349), (26, .int .u32 2952996808), (27, .int .u32 3210313671), (28, .int .u32 3336571891), (29, .int .u32 3584528711), (30, .int .u32 113926993), (31, .int .u32 338241895), (32, .int .u32 666307205), (33, .int .u32 773529912), (34, .int .u32 1294757372), (35, .int .u32 1396182291), (36, .int .u32 1695183700), (37, .int .u32 1986661051), (38, .int .u32 2177026350), (39, .int .u32 2456956037), (40, .int .u32 2730485921), (41, .int .u32 2820302411), (42, .int .u32 3259730800), (43, .int .u32 3345764771), (44, .int .u32 3516065817), (45, .int .u32 3600352804), (46, .int .u32 4094571909), (47, .int .u32 275423344), (48, .int .u32 430227734), (49, .int .u32 506948616), (50, .int .u32 659060556), (51, .int .u32 883997877), (52, .int .u32 958139571), (53, .int .u32 1322822218), (54, .int .u32 1537002063), (55, .int .u32 1747873779), (56, .int .u32 1955562222), (57, .int .u32 2024104815), (58, .int .u32 2227730452), (59, .int .u32 2361852424), (60, .int .u32 2428436474), (61, .int .u32 2756734187), (62, .int .u32 3204031479), (63, .int .u32 3329325298)] (by simp [Act.eval]) (by kernel_rfl) ?_
    | refine wpList_store_mid rfl 100 (.tmp 0) (.tmp 1) rfl w.heap.size 0 (bC Sha.K) rfl rfl HTH.out (w64_size K_length) (bC_one _) ?_)
  have hr : ((w.alloc (.cells (bC z64) 100)).setCells w.heap.size 0 (Sha.K.map u32V)).rangeAt w.heap.size 0 (Sha.K.map u32V) := World.rangeAt_setCells_same _ _ _ _ (by have := HTH.out; rw [bC_size] at this; rw [List.length_map]; exact this)
  refine bodyPost_ret (v := .agg (bC Sha.K)) (results_cell (t := 0) (ty := 100) (b := w.heap.size) (cs := Sha.K.map u32V) rfl _ _ _ rfl hr Tryd.underlying100 rfl (by have := w64_size K_length; rw [bC_size] at this; rw [List.length_map]; exact this)) rfl ⟨rfl, ?_⟩
  exact below_setCells (Nat.le_refl _) _ _ _ ((Below.refl _ _).alloc (Nat.le_refl _) _)

theorem rstart_any (w : World) : Calls Tryd.prog 53 #[] w fun e w' => e = .returned (.agg (vC Sha.start)) ∧ Below w.heap.size w w' := by
  go_enter Tryd.func53, Tryd.ntmps53
  go_wp2
  refine bodyPost_ret (v := .agg (vC Sha.start)) (by simp [results, Tryd.results53, go_sem, vC, Sha.start]) rfl ⟨rfl, ?_⟩
  exact (Below.refl _ _).alloc (Nat.le_refl _) _
end Go.Proofs.YtgiakpnkidblpaaDoor
