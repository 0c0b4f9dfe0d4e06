/-
  Package twin: Data.
-/
import Derived.Test.YtdcebdleneieeaaDoorTwinDef
namespace Go.Proofs.YtdcebdleneieeaaDoor
open Go.RowKit

theorem tS_mark (s : List UInt8) : (⟨#[0]⟩ : ByteArray) ++ tS s = tS (0 :: s) := by
  refine ByteArray.ext ?_
  rw [ByteArray.data_append]
  simp [tS]
theorem add_mark (s : List UInt8) (h : s.length ≤ 1000) (w : World) : (binOp .add 9 (.string ⟨#[0]⟩) (.string (tS s))).run Tryd.prog w = .ok (.string (tS (0 :: s))) w := by
  rw [← tS_mark]
  have h2 : 1 + (tS s).size ≤ 9223372036854775807 := by rw [tS_size]; omega
  go_simp
/-- What Data tells. -/
def dataZ (s t : List UInt8) : Option TT := Tree.firstT [0 :: s] [0 :: t]
set_option maxHeartbeats 2000000 in
set_option maxRecDepth 100000 in
theorem Data_any (s t : List UInt8) (w : World) (hs : s.length ≤ 1000) (ht : t.length ≤ 1000) (hK : KT w) :
    Calls Tryd.prog 16 #[.string (tS s), .string (tS t)] w fun e w' => e = .returned (twR (dataZ s t)) ∧ Below w.heap.size w w' := by
  obtain ⟨w0, hw0⟩ : ∃ w0, w0 = w.alloc (.cells #[tV [], tV []] 32) := ⟨_, rfl⟩
  have b0 : Below w.heap.size w w0 := by rw [hw0]; exact (Below.refl _ _).alloc (Nat.le_refl _) _
  have h1 : IsTw ([], []) w0 w.heap.size := by rw [hw0]; exact heap_alloc_last w _
  obtain ⟨p, hp⟩ : ∃ p, p = (dataZ s t).getD ([], []) := ⟨_, rfl⟩
  obtain ⟨b, hb⟩ : ∃ b, b = (dataZ s t).isSome := ⟨_, rfl⟩
  have htw : twR (dataZ s t) = .tuple #[twV p, .bool b] := by rw [hp, hb]; rfl
  have HFI : Hid (∀ u, u = (w0.alloc (.cells #[.string (tS (0 :: s))] 9)).alloc (.cells #[.string (tS (0 :: t))] 9) → Calls Tryd.prog 31 #[.slice (some ⟨w0.heap.size, 0, none⟩) 1 1, .slice (some ⟨w0.heap.size + 1, 0, none⟩) 1 1] u fun e w' => e = .returned (.tuple #[twV p, .bool b]) ∧ Below w0.heap.size w0 w') := Lib.hid fun u hu => by
    have bu : Below w0.heap.size w0 u := by rw [hu]; exact ((Below.refl _ _).alloc (Nat.le_refl _) _).alloc (by simp) _
    have t1 : Texts u (.slice (some ⟨w0.heap.size, 0, none⟩) 1 1) [0 :: s] := by
      rw [hu]
      exact Texts.one ((Below.heap_alloc _ _ _ (by simp)).trans (heap_alloc_last w0 _))
    have t2 : Texts u (.slice (some ⟨w0.heap.size + 1, 0, none⟩) 1 1) [0 :: t] := by
      rw [hu]
      have := heap_alloc_last (w0.alloc (.cells #[.string (tS (0 :: s))] 9)) (.cells #[.string (tS (0 :: t))] 9)
      rw [World.size_alloc] at this
      exact Texts.one this
    rw [← htw]
    refine (first_any _ _ [0 :: s] [0 :: t] u t1 t2 (by simp) (by simp) (by simp; omega) (by simp; omega) (hK.old (below_step b0 (Nat.le_refl _) bu))).mono fun e w' h => ⟨h.1, bu.trans (h.2.mono bu.size)⟩
  rw [htw]
  have H1 := Lib.hid h1
  have HB := Lib.hid b0
  have hq : w.heap.size < w0.heap.size := h1.lt
  obtain ⟨S, hS⟩ : ∃ S, S = tS s := ⟨_, rfl⟩
  obtain ⟨T, hT⟩ : ∃ T, T = tS t := ⟨_, rfl⟩
  have hsz1 : 1 + S.size ≤ 9223372036854775807 := by rw [hS, tS_size]; omega
  have hsz2 : 1 + T.size ≤ 9223372036854775807 := by rw [hT, tS_size]; omega
  rw [← hS, ← hT]
  rw [← tS_mark, ← tS_mark, ← hS, ← hT] at HFI
  clear htw hp hb h1 b0 hS hT hs ht hK
  go_enter Tryd.func16, Tryd.ntmps16
  go_upto_region 1 with (fail)
  change Code.wp _ _ _ _ (w.alloc (.cells #[tV [], tV []] 32))
  rw [← hw0]
  clear hw0
  obtain ⟨q4, hq4⟩ : ∃ q, q = w.heap.size := ⟨_, rfl⟩
  rw [← hq4] at H1 hq HB ⊢
  have Hq4 := Lib.hid hq4
  clear hq4
  go_wp2_with (first
    | (go_at_call 31; (refine (HFI.out _ rfl).mono ?_); rintro e w5 ⟨rfl, b5⟩; have H5 := Lib.hid (H1.out.old b5); have HB5 := Lib.hid (HB.out.trans (b5.mono (Nat.le_of_lt hq))); clear b5)
    | refine wpList_store_tw rfl (.tmp 4) (.tmp 13) rfl q4 p ([], []) rfl rfl H5.out ?_)
  refine bodyPost_ret (results_ct (t := 4) (u := 5) (ty := 32) (b := q4) (cs := [tV p.1, tV p.2]) rfl _ _ _ rfl (H5.out.set (r := p)).range Tryd.underlying32 rfl tw_info) rfl ⟨?_, ?_⟩
  · rfl
  · rw [← Hq4.out]
    exact below_setCells (Nat.le_refl _) _ _ _ HB5.out
end Go.Proofs.YtdcebdleneieeaaDoor
