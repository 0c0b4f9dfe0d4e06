/-
  Package sector's Fill and Open, and the document's own Open: what they tell, for every text; what was made is opened again, and no two texts make one sector.
-/
import Derived.Test.YtnieebkkpmdgmaaSecFill
import Derived.Test.YtnieebkkpmdgmaaOctRead
import Derived.Test.YtnieebkkpmdgmaaOctRTxt
import Derived.Test.YtnieebkkpmdgmaaDiskNew
namespace Go.Proofs.Ytnieebkkpmdgmaa
open Go.RowKit Dsk

theorem text_parts (t : ByteArray) (r : List UInt8) (most : Int) (h : (t.size : Int) ≤ most) (hs : t.size < 18446744073709551616) :
    textV (some (txtL t ++ r)) most = t.data.toList ∧ textS (some (txtL t ++ r)) most = some r := by
  have hm : ¬ (most < 0 ∨ most < t.size) := by omega
  have e : txtL t ++ r = Oct.putL t.size ++ (t.data.toList ++ r) := by rw [txtL, List.append_assoc]
  have e1 := numV_put t.size hs (t.data.toList ++ r) most hm
  have e2 := numS_put t.size hs (t.data.toList ++ r) most hm
  have hl : t.data.toList.length = t.size := (Lib.size_eq t).symm
  have hn : ¬ (t.data.toList ++ r).length < t.size := by rw [List.length_append, hl]; omega
  unfold textV textS
  rw [e, e1, e2, Option.getD_some, Option.bind_some, if_neg hn, if_neg hn, ← hl]
  simp
theorem read_str (s : ByteArray) (w : World) (hs : s.size ≤ maxLen) :
    Calls Try.prog 39 #[.string s] w fun e w' => e = .returned (.pointer (some ⟨w.heap.size, 0, none⟩)) ∧ Scn w.heap.size (some s.data.toList) w' ∧ Below w.heap.size w w' := by
  have := read_any s.data.toList w (by rw [← Lib.size_eq]; exact hs)
  rw [Lib.mk_data] at this
  exact this
/-- The text that stands at the beginning of raw. -/
def headB (raw : ByteArray) : ByteArray := ⟨(textV (some raw.data.toList) 256).toArray⟩
/-- Is raw the Fill of it? -/
def openB (raw : ByteArray) : Bool := decide (fillE (headB raw) = 0) && decide (fillS (headB raw) = raw)
def openS (raw : ByteArray) : ByteArray := if openB raw then headB raw else ⟨#[]⟩

theorem textB_data (s : ByteArray) : (textB s).data.toList = txtL s := by
  unfold textB
  rw [txt_eq]
theorem fill_data (s : ByteArray) (h : (textB s).size ≤ 256) : (fillS s).data.toList = txtL s ++ List.replicate (256 - (textB s).size) 0 := by
  unfold fillS
  rw [if_pos h, app_data, textB_data]
  rfl
theorem fits_small (s : ByteArray) (h : (textB s).size ≤ 256) : s.size ≤ 256 := by rw [textB_size] at h; omega
/-- What was made is opened again. -/
theorem head_fill (s : ByteArray) (h : (textB s).size ≤ 256) : headB (fillS s) = s := by
  have hs := fits_small s h
  unfold headB
  rw [fill_data s h, (text_parts s _ 256 (by omega) (by omega)).1]
theorem open_fill (s : ByteArray) (h : (textB s).size ≤ 256) : openB (fillS s) = true ∧ openS (fillS s) = s := by
  have hb : openB (fillS s) = true := by
    unfold openB
    rw [head_fill s h]
    have : fillE s = 0 := if_pos h
    simp [this]
  exact ⟨hb, by unfold openS; rw [if_pos hb, head_fill s h]⟩
/-- What is opened is not spoilt. -/
theorem open_sound (raw : ByteArray) (h : openB raw = true) : (textS (some raw.data.toList) 256).isNone = false := by
  unfold openB at h
  simp only [Bool.and_eq_true, decide_eq_true_eq] at h
  have hf : (textB (headB raw)).size ≤ 256 := by
    have h1 := h.1
    unfold fillE at h1
    split at h1
    · assumption
    · cases h1
  have hs := fits_small _ hf
  rw [← h.2, fill_data _ hf, (text_parts (headB raw) _ 256 (by omega) (by omega)).2]
  rfl
theorem open_size (raw : ByteArray) (h : openB raw = true) : raw.size = 256 ∧ fillE (openS raw) = 0 ∧ fillS (openS raw) = raw := by
  have hh := h
  unfold openB at h
  simp only [Bool.and_eq_true, decide_eq_true_eq] at h
  have hf : (textB (headB raw)).size ≤ 256 := by
    have h1 := h.1
    unfold fillE at h1
    split at h1
    · assumption
    · cases h1
  have e : openS raw = headB raw := by unfold openS; rw [if_pos hh]
  rw [e]
  refine ⟨?_, h⟩
  have := fillS_size _ hf
  rw [h.2] at this
  exact this
theorem fill_inj (a b : ByteArray) (ha : (textB a).size ≤ 256) (hb : (textB b).size ≤ 256) (h : fillS a = fillS b) : a = b := by
  rw [← head_fill a ha, ← head_fill b hb, h]
/-- Nothing is opened as nothing. -/
theorem open_none : openB ⟨#[]⟩ = false := by
  cases h : openB ⟨#[]⟩ with
  | false => rfl
  | true => exact absurd (open_size _ h).1 (by decide)

theorem fill_any (s : ByteArray) (w : World) (hs : s.size ≤ 1000000) :
    Calls Try.prog 12 #[.string s] w fun e w' => e = .returned (.tuple #[.string (fillS s), .int .i64 (fillE s)]) ∧ Below w.heap.size w w' := by
  have hn := Oct.need_le s.size (by omega)
  have hsz := size_any s.size w (by omega)
  have ht := fun u => textPut_any s u (by omega)
  simp only [show Oct.putB s.size ++ s = textB s from rfl] at ht
  have hT := textB_size s
  unfold fillS fillE
  obtain ⟨T, hT'⟩ : ∃ T, T = textB s := ⟨_, rfl⟩
  rw [← hT'] at hT ⊢
  simp only [← hT'] at ht
  clear hT'
  obtain ⟨nd, hnd⟩ : ∃ nd, nd = Oct.need s.size := ⟨_, rfl⟩
  rw [← hnd] at hT hn hsz
  clear hnd
  by_cases h : T.size ≤ 256
  · rw [if_pos h, if_pos h]
    obtain ⟨k, hk⟩ : ∃ k, k = 256 - T.size := ⟨_, rfl⟩
    rw [← hk]
    have hki : (256 : Int) - ((nd : Int) + 1 + (s.size : Int)) = (k : Int) := by omega
    have hz := fun u => zeros_any k u (by omega)
    have hzs := zs_size k
    have hle : ¬ (256 : Int) < (nd : Int) + 1 + (s.size : Int) := by omega
    obtain ⟨Z, hZ⟩ : ∃ Z, Z = zs k := ⟨_, rfl⟩
    rw [← hZ] at hzs ⊢
    simp only [← hZ] at hz
    have hkl : k ≤ 256 := by omega
    clear hZ hk
    go_enter Try.func12, Try.ntmps12
    go_wp2_with (first
      | (go_at_call 35; refine hsz.mono ?_; rintro e w' ⟨rfl, rfl⟩)
      | (go_at_call 36; refine (ht _).mono ?_; rintro e w1 ⟨rfl, b1⟩)
      | (go_at_call 37; refine (hz _).mono ?_; rintro e w2 ⟨rfl, b2⟩))
    go_ret2
    exact ⟨rfl, below_step b1 (Nat.le_refl _) b2⟩
  · rw [if_neg h, if_neg h]
    have hgt : (256 : Int) < (nd : Int) + 1 + (s.size : Int) := by omega
    go_enter Try.func12, Try.ntmps12
    go_wp2_with (go_at_call 35; refine hsz.mono ?_; rintro e w' ⟨rfl, rfl⟩)
    go_ret2
    exact ⟨rfl, Below.refl _ _⟩
theorem head_size (raw : ByteArray) : (headB raw).size ≤ raw.size := by
  have h1 : (textV (some raw.data.toList) 256).length ≤ raw.data.toList.length := by
    unfold textV
    split
    · simp
    · rw [List.length_take]
      have := numS_len (some raw.data.toList) 256
      simp only [Option.getD_some] at this
      omega
  rw [← Lib.size_eq] at h1
  show (textV (some raw.data.toList) 256).toArray.size ≤ _
  rw [List.size_toArray]
  exact h1
theorem open_any (raw : ByteArray) (w : World) (hs : raw.size ≤ 1000000) :
    Calls Try.prog 14 #[.string raw] w fun e w' => e = .returned (.tuple #[.string (openS raw), .bool (openB raw)]) ∧ Below w.heap.size w w' := by
  have hr := read_str raw w (by unfold maxLen; omega)
  have ht := fun u h => text_any w.heap.size (some raw.data.toList) 256 u h (by decide) (by decide)
  have hh := head_size raw
  have hb : openB raw = (decide (fillE (headB raw) = 0) && decide (fillS (headB raw) = raw)) := rfl
  unfold openS
  rw [hb]
  obtain ⟨S, hS⟩ : ∃ S, S = headB raw := ⟨_, rfl⟩
  have hS' : S = ⟨(textV (some raw.data.toList) 256).toArray⟩ := hS
  rw [← hS] at hh ⊢
  simp only [← hS'] at ht
  have hf := fun u => fill_any S u (by omega)
  clear hS hS' hb
  obtain ⟨F, hF⟩ : ∃ F, F = fillS S := ⟨_, rfl⟩
  obtain ⟨E, hE⟩ : ∃ E, E = fillE S := ⟨_, rfl⟩
  rw [← hF, ← hE]
  simp only [← hF, ← hE] at hf
  clear hF hE
  by_cases h1 : E = 0
  · by_cases h2 : F = raw
    · have h3 : (F.toList == raw.toList) = true := by rw [h2]; simp
      rw [decide_eq_true h1, decide_eq_true h2, Bool.and_self, if_pos rfl]
      subst h1
      clear h2
      go_enter Try.func14, Try.ntmps14
      go_wp2_with (first
        | (go_at_call 39; refine hr.mono ?_; rintro e w1 ⟨rfl, hs1, b1⟩)
        | (go_at_call 40; refine (ht _ hs1).mono ?_; rintro e w2 ⟨rfl, hs2, o2⟩)
        | (go_at_call 12; refine (hf _).mono ?_; rintro e w3 ⟨rfl, b3⟩))
      go_ret2
      exact ⟨rfl, below_step (b1.trans (o2.below (Nat.le_refl _) b1.size)) (Nat.le_refl _) b3⟩
    · have h3' : (F.toList == raw.toList) = false := by
        have : F.toList ≠ raw.toList := fun e => h2 (by rw [Lib.toList_data, Lib.toList_data] at e; exact ByteArray.ext (Array.toList_inj.1 e))
        simpa using this
      rw [decide_eq_false h2, Bool.and_false, if_neg Bool.false_ne_true]
      subst h1
      clear h2
      go_enter Try.func14, Try.ntmps14
      go_wp2_with (first
        | (go_at_call 39; refine hr.mono ?_; rintro e w1 ⟨rfl, hs1, b1⟩)
        | (go_at_call 40; refine (ht _ hs1).mono ?_; rintro e w2 ⟨rfl, hs2, o2⟩)
        | (go_at_call 12; refine (hf _).mono ?_; rintro e w3 ⟨rfl, b3⟩))
      go_ret2
      exact ⟨rfl, below_step (b1.trans (o2.below (Nat.le_refl _) b1.size)) (Nat.le_refl _) b3⟩
  · rw [decide_eq_false h1, Bool.false_and, if_neg Bool.false_ne_true]
    go_enter Try.func14, Try.ntmps14
    go_wp2_with (first
      | (go_at_call 39; refine hr.mono ?_; rintro e w1 ⟨rfl, hs1, b1⟩)
      | (go_at_call 40; refine (ht _ hs1).mono ?_; rintro e w2 ⟨rfl, hs2, o2⟩)
      | (go_at_call 12; refine (hf _).mono ?_; rintro e w3 ⟨rfl, b3⟩))
    go_ret2
    exact ⟨rfl, below_step (b1.trans (o2.below (Nat.le_refl _) b1.size)) (Nat.le_refl _) b3⟩
theorem refOpen_any (raw : ByteArray) (w : World) (hs : raw.size ≤ 1000000) :
    Calls Try.prog 15 #[.string raw] w fun e w' => e = .returned (.tuple #[.string (openS raw), .bool (openB raw)]) ∧ Below w.heap.size w w' := by
  have hal : Below w.heap.size w (w.alloc (.cells #[.string raw, .int .i64 0, .bool false] 69)) := (Below.refl _ _).alloc (Nat.le_refl _) _
  have ht := fun u h => rtext_any w.heap.size raw (some raw.data.toList) 256 u (by omega) h (by decide) (by decide)
  have hh := head_size raw
  have hsound := open_sound raw
  have hb : openB raw = (decide (fillE (headB raw) = 0) && decide (fillS (headB raw) = raw)) := rfl
  unfold openS
  cases hbad : (textS (some raw.data.toList) 256).isNone with
  | true =>
    have ho : openB raw = false := by
      cases h : openB raw with
      | false => rfl
      | true => have := hsound h; rw [hbad] at this; cases this
    rw [ho, if_neg Bool.false_ne_true]
    obtain ⟨S, hS⟩ : ∃ S, S = headB raw := ⟨_, rfl⟩
    have hS' : S = ⟨(textV (some raw.data.toList) 256).toArray⟩ := hS
    rw [← hS] at hh
    simp only [← hS'] at ht
    have hf := fun u => refFill_any S u (by omega)
    clear hS hS' hb ho hsound
    go_enter Try.func15, Try.ntmps15
    go_wp2_with (first
      | (go_at_call 41; refine (ht _ (RScn.alloc raw w)).mono ?_; rintro e w2 ⟨rfl, hs2, o2⟩; have c2 := hs2.c2; rw [hbad] at c2)
      | (go_at_call 13; refine (hf _).mono ?_; rintro e w3 ⟨rfl, b3⟩; have c3 := (b3.cell (p := ⟨w.heap.size, 2, none⟩) hs2.lt).trans c2))
    go_ret2
    exact ⟨rfl, below_step (hal.trans (o2.below (Nat.le_refl _) hal.size)) (Nat.le_refl _) b3⟩
  | false =>
    rw [hb]
    obtain ⟨S, hS⟩ : ∃ S, S = headB raw := ⟨_, rfl⟩
    have hS' : S = ⟨(textV (some raw.data.toList) 256).toArray⟩ := hS
    rw [← hS] at hh ⊢
    simp only [← hS'] at ht
    have hf := fun u => refFill_any S u (by omega)
    clear hS hS' hb hsound
    obtain ⟨F, hF⟩ : ∃ F, F = fillS S := ⟨_, rfl⟩
    obtain ⟨E, hE⟩ : ∃ E, E = fillE S := ⟨_, rfl⟩
    rw [← hF, ← hE]
    simp only [← hF, ← hE] at hf
    clear hF hE
    by_cases h1 : E = 0
    · by_cases h2 : F = raw
      · have h3' : (F.toList == raw.toList) = true := by rw [h2]; simp
        rw [decide_eq_true h1, decide_eq_true h2, Bool.and_self, if_pos rfl]
        subst h1
        clear h2
        go_enter Try.func15, Try.ntmps15
        go_wp2_with (first
          | (go_at_call 41; refine (ht _ (RScn.alloc raw w)).mono ?_; rintro e w2 ⟨rfl, hs2, o2⟩; have c2 := hs2.c2; rw [hbad] at c2)
          | (go_at_call 13; refine (hf _).mono ?_; rintro e w3 ⟨rfl, b3⟩; have c3 := (b3.cell (p := ⟨w.heap.size, 2, none⟩) hs2.lt).trans c2))
        go_ret2
        exact ⟨rfl, below_step (hal.trans (o2.below (Nat.le_refl _) hal.size)) (Nat.le_refl _) b3⟩
      · have h3' : (F.toList == raw.toList) = false := by
          have : F.toList ≠ raw.toList := fun e => h2 (by rw [Lib.toList_data, Lib.toList_data] at e; exact ByteArray.ext (Array.toList_inj.1 e))
          simpa using this
        rw [decide_eq_false h2, Bool.and_false, if_neg Bool.false_ne_true]
        subst h1
        clear h2
        go_enter Try.func15, Try.ntmps15
        go_wp2_with (first
          | (go_at_call 41; refine (ht _ (RScn.alloc raw w)).mono ?_; rintro e w2 ⟨rfl, hs2, o2⟩; have c2 := hs2.c2; rw [hbad] at c2)
          | (go_at_call 13; refine (hf _).mono ?_; rintro e w3 ⟨rfl, b3⟩; have c3 := (b3.cell (p := ⟨w.heap.size, 2, none⟩) hs2.lt).trans c2))
        go_ret2
        exact ⟨rfl, below_step (hal.trans (o2.below (Nat.le_refl _) hal.size)) (Nat.le_refl _) b3⟩
    · rw [decide_eq_false h1, Bool.false_and, if_neg Bool.false_ne_true]
      go_enter Try.func15, Try.ntmps15
      go_wp2_with (first
        | (go_at_call 41; refine (ht _ (RScn.alloc raw w)).mono ?_; rintro e w2 ⟨rfl, hs2, o2⟩; have c2 := hs2.c2; rw [hbad] at c2)
        | (go_at_call 13; refine (hf _).mono ?_; rintro e w3 ⟨rfl, b3⟩; have c3 := (b3.cell (p := ⟨w.heap.size, 2, none⟩) hs2.lt).trans c2))
      go_ret2
      exact ⟨rfl, below_step (hal.trans (o2.below (Nat.le_refl _) hal.size)) (Nat.le_refl _) b3⟩
theorem short_any (s : ByteArray) (n : Nat) (w : World) :
    Calls Try.prog 11 #[.string s, .int .i64 n] w fun e w' => e = .returned (.string (shortB s n)) ∧ w = w' := by
  unfold shortB
  by_cases h : n < s.size
  · rw [if_pos h]
    have h2 : n ≤ s.size := by omega
    go_enter Try.func11, Try.ntmps11
    go_wp2
    go_ret
    exact ⟨rfl, rfl⟩
  · rw [if_neg h]
    go_enter Try.func11, Try.ntmps11
    go_wp2
    go_ret
    exact ⟨rfl, rfl⟩
end Go.Proofs.Ytnieebkkpmdgmaa
