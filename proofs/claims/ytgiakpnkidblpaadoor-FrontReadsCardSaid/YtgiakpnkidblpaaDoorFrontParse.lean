/-
  Plain mathematics: which bytes are a front's, and which front's.
-/
import Derived.Test.YtgiakpnkidblpaaDoorFrontPeak
namespace Go.Proofs.YtgiakpnkidblpaaDoor
open Go.RowKit

theorem OctI_numV_nil (most : Int) : numV none most = 0 := by unfold numV longV; split <;> rfl
theorem OctI_numS_nil (most : Int) : numS none most = none := by unfold numS longS; split <;> rfl
/-- How many leaves the bytes s say, and the list that stands behind. -/
def numF (s : List UInt8) : Nat := numV (some s) 1099511627776
def lstF (s : List UInt8) (most : Int) : List (List UInt8) × Option (List UInt8) := listR (numS (some s) 1099511627776) most
/-- The front whose bytes s is, if there is one. -/
def okF (s : List UInt8) : Prop := (lstF s (Tree.ones (numF s))).2 = some [] ∧ (lstF s (Tree.ones (numF s))).1.length = Tree.ones (numF s) ∧ all32 (lstF s (Tree.ones (numF s))).1
theorem numF_le (s : List UInt8) : numF s ≤ 1099511627776 := by
  unfold numF numV
  split
  · omega
  · omega
theorem numF_ones (s : List UInt8) : Tree.ones (numF s) ≤ 40 := Tree.ones_most _ (numF_le s)
theorem strS_strs (P : Hs) : strS P = strs P := rfl
theorem frontB_data (n : Nat) (P : Hs) : (frontB n P).data.toList = Oct.putL n ++ listL (strS P) := by
  unfold frontB
  rw [app_data]
  rfl
/-- Bytes that are a front's are those that are written of it. -/
theorem okF_bytes {s : ByteArray} (h : okF s.data.toList) : frontB (numF s.data.toList) (lstF s.data.toList (Tree.ones (numF s.data.toList))).1 = s := by
  obtain ⟨h1, h2, h3⟩ := h
  obtain ⟨l, hl⟩ : ∃ l, l = s.data.toList := ⟨_, rfl⟩
  rw [← hl] at h1 h2 h3 ⊢
  apply ByteArray.ext
  apply Array.toList_inj.1
  rw [frontB_data, ← hl]
  cases hn : numS (some l) 1099511627776 with
  | none =>
    unfold lstF at h1
    rw [hn] at h1
    unfold listR at h1
    rw [OctI_numV_nil, OctI_numS_nil] at h1
    cases h1
  | some q =>
    obtain ⟨e1, -⟩ := OctI.numS_inv (most := 1099511627776) hn
    have hq : listR (some q) (Tree.ones (numF l)) = ((lstF l (Tree.ones (numF l))).1, some []) := by
      rw [← h1]
      unfold lstF
      rw [hn]
    obtain ⟨e2, -⟩ := OctI.list_inv hq
    conv => rhs; rw [e1, e2]
    rw [List.append_nil]
    rfl
/-- What is written of a front are its bytes. -/
theorem okF_put (n : Nat) (P : Hs) (hn : n ≤ 1099511627776) (hl : P.length = Tree.ones n) (ha : all32 P) : numF (frontB n P).data.toList = n ∧ lstF (frontB n P).data.toList (Tree.ones n) = (P, some []) := by
  have hm : ¬ ((1099511627776 : Int) < 0 ∨ (1099511627776 : Int) < n) := by omega
  have h40 := Tree.ones_most n hn
  rw [frontB_data]
  have e1 := numV_put n (by omega) (listL (strS P)) 1099511627776 hm
  have e2 := numS_put n (by omega) (listL (strS P)) 1099511627776 hm
  refine ⟨e1, ?_⟩
  unfold lstF
  rw [e2]
  have := OctI.list_parts (strS P) [] (Tree.ones n) (by rw [strS_length]; omega) (by rw [strS_length]; omega) (strS_small P ha)
  rw [List.append_nil] at this
  rw [this]
  congr 1
  unfold strS
  rw [List.map_map]
  conv => rhs; rw [← List.map_id P]
  exact List.map_congr_left fun x _ => rfl
/-- Too many leaves: no front. -/
theorem okF_big (n : Nat) (P : Hs) (hn : 1099511627776 < n) (h64 : n < 18446744073709551616) : numF (frontB n P).data.toList = 0 ∧ ∀ most, lstF (frontB n P).data.toList most = ([], none) := by
  rw [frontB_data]
  obtain ⟨e1, e2⟩ := num_bad n h64 (listL (strS P)) 1099511627776 (.inr (by omega))
  refine ⟨e1, fun most => ?_⟩
  unfold lstF
  rw [e2]
  unfold listR
  rw [OctI_numV_nil, OctI_numS_nil]
  rfl
/-- The document reads up to 64 texts. -/
theorem lst64 (s : List UInt8) (L : List (List UInt8)) (hL : L.length = Tree.ones (numF s)) : lstF s 64 = (L, some []) ↔ lstF s (Tree.ones (numF s)) = (L, some []) := by
  have := numF_ones s
  exact OctI.list_most _ (Tree.ones (numF s)) 64 (by omega) L [] hL
theorem ok64 (s : List UInt8) : okF s ↔ ((lstF s 64).2 = some [] ∧ (lstF s 64).1.length = Tree.ones (numF s) ∧ all32 (lstF s 64).1) := by
  constructor
  · rintro ⟨h1, h2, h3⟩
    have := (lst64 s _ h2).2 (by rw [← h1])
    rw [this]
    exact ⟨rfl, h2, h3⟩
  · rintro ⟨h1, h2, h3⟩
    have := (lst64 s _ h2).1 (by rw [← h1])
    unfold okF
    rw [this]
    exact ⟨rfl, h2, h3⟩
theorem ok64_eq {s : List UInt8} (h : okF s) : lstF s 64 = lstF s (Tree.ones (numF s)) := by
  have := (lst64 s _ h.2.1).2 (by rw [← h.1])
  rw [this, ← h.1]
end Go.Proofs.YtgiakpnkidblpaaDoor
