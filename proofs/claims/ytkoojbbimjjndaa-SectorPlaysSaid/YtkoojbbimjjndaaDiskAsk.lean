/-
  Package sector: what a disk's small calls do: Sectors, has, On, Steps, Cached, Peek, step, Arm.
-/
import Derived.Test.YtkoojbbimjjndaaDiskMem
import Derived.Lib.Hide
namespace Go.Proofs.Ytkoojbbimjjndaa
open Go.RowKit Dsk

section
variable {p bl : Nat} {cv : Value} {d : Dk} {w : World}
theorem DiskAt.c0 (h : DiskAt p bl cv d w) : w.cell? ⟨p, 0, none⟩ = some (.slice (some ⟨bl, 0, none⟩) d.lies.length d.lies.length) := h.c 0
theorem DiskAt.c1 (h : DiskAt p bl cv d w) : w.cell? ⟨p, 1, none⟩ = some cv := h.c 1
theorem DiskAt.c2 (h : DiskAt p bl cv d w) : w.cell? ⟨p, 2, none⟩ = some (.bool d.on) := h.c 2
theorem DiskAt.c3 (h : DiskAt p bl cv d w) : w.cell? ⟨p, 3, none⟩ = some (.bool d.armed) := h.c 3
theorem DiskAt.c4 (h : DiskAt p bl cv d w) : w.cell? ⟨p, 4, none⟩ = some (.int .i64 d.left) := h.c 4
theorem DiskAt.c5 (h : DiskAt p bl cv d w) : w.cell? ⟨p, 5, none⟩ = some (.int .i64 d.steps) := h.c 5
end

theorem sectors_any (p bl : Nat) (cv : Value) (d : Dk) (w : World) (h : DiskAt p bl cv d w) :
    Calls Try.prog 18 #[.pointer (some ⟨p, 0, none⟩)] w fun e w' => e = .returned (.int .i64 d.lies.length) ∧ w = w' := by
  have h0 := h.c0
  go_enter Try.func18, Try.ntmps18
  go_wp2
  go_ret
  exact ⟨rfl, rfl⟩
theorem sectors_nil (w : World) :
    Calls Try.prog 18 #[.pointer none] w fun e w' => e = .returned (.int .i64 0) ∧ w = w' := by
  go_enter Try.func18, Try.ntmps18
  go_wp2
  go_ret
  exact ⟨rfl, rfl⟩
/-- Is there such a sector? -/
def hasB (n : Nat) (at_ : Int) : Bool := decide (0 ≤ at_) && decide (at_ < n)
theorem has_any (p bl : Nat) (cv : Value) (d : Dk) (at_ : Int) (w : World) (h : DiskAt p bl cv d w) :
    Calls Try.prog 48 #[.pointer (some ⟨p, 0, none⟩), .int .i64 at_] w fun e w' => e = .returned (.bool (hasB d.lies.length at_)) ∧ w = w' := by
  have hm := h.most
  unfold hasB
  by_cases h0 : 0 ≤ at_
  · rw [decide_eq_true h0, Bool.true_and]
    go_enter Try.func48, Try.ntmps48
    go_wp2_with (go_at_call 18; refine (sectors_any _ _ _ _ _ h).mono ?_; rintro e w' ⟨rfl, rfl⟩)
    go_ret
    exact ⟨rfl, rfl⟩
  · rw [decide_eq_false h0, Bool.false_and]
    go_enter Try.func48, Try.ntmps48
    go_wp2
    go_ret
    exact ⟨rfl, rfl⟩
theorem has_nil (at_ : Int) (w : World) :
    Calls Try.prog 48 #[.pointer none, .int .i64 at_] w fun e w' => e = .returned (.bool false) ∧ w = w' := by
  by_cases h0 : 0 ≤ at_
  · have h1 : ¬ at_ < 0 := by omega
    go_enter Try.func48, Try.ntmps48
    go_wp2_with (go_at_call 18; refine (sectors_nil _).mono ?_; rintro e w' ⟨rfl, rfl⟩)
    go_ret
    exact ⟨by show Ending.returned (.bool (decide (at_ < 0))) = _; rw [decide_eq_false (by omega)], rfl⟩
  · go_enter Try.func48, Try.ntmps48
    go_wp2
    go_ret
    exact ⟨rfl, rfl⟩
theorem on_any (p bl : Nat) (cv : Value) (d : Dk) (w : World) (h : DiskAt p bl cv d w) :
    Calls Try.prog 29 #[.pointer (some ⟨p, 0, none⟩)] w fun e w' => e = .returned (.bool d.on) ∧ w = w' := by
  have h0 := h.c2
  go_enter Try.func29, Try.ntmps29
  go_wp2
  go_ret
  exact ⟨rfl, rfl⟩
theorem on_nil (w : World) :
    Calls Try.prog 29 #[.pointer none] w fun e w' => e = .returned (.bool false) ∧ w = w' := by
  go_enter Try.func29, Try.ntmps29
  go_wp2
  go_ret
  exact ⟨rfl, rfl⟩
theorem steps_any (p bl : Nat) (cv : Value) (d : Dk) (w : World) (h : DiskAt p bl cv d w) :
    Calls Try.prog 30 #[.pointer (some ⟨p, 0, none⟩)] w fun e w' => e = .returned (.int .i64 d.steps) ∧ w = w' := by
  have h0 := h.c5
  go_enter Try.func30, Try.ntmps30
  go_wp2
  go_ret
  exact ⟨rfl, rfl⟩
theorem steps_nil (w : World) :
    Calls Try.prog 30 #[.pointer none] w fun e w' => e = .returned (.int .i64 0) ∧ w = w' := by
  go_enter Try.func30, Try.ntmps30
  go_wp2
  go_ret
  exact ⟨rfl, rfl⟩
theorem cached_any (p bl : Nat) (cv : Value) (d : Dk) (w : World) (h : DiskAt p bl cv d w) :
    Calls Try.prog 31 #[.pointer (some ⟨p, 0, none⟩)] w fun e w' => e = .returned (.int .i64 d.cache.length) ∧ w = w' := by
  have h0 := h.c1
  obtain ⟨a, cap, hv⟩ := h.cache.slice
  rw [hv] at h0
  go_enter Try.func31, Try.ntmps31
  go_wp2
  go_ret
  exact ⟨rfl, rfl⟩
theorem cached_nil (w : World) :
    Calls Try.prog 31 #[.pointer none] w fun e w' => e = .returned (.int .i64 0) ∧ w = w' := by
  go_enter Try.func31, Try.ntmps31
  go_wp2
  go_ret
  exact ⟨rfl, rfl⟩
/-- What Peek tells. -/
def peek (d : Dk) (at_ : Int) : ByteArray := if hasB d.lies.length at_ then d.lies.getD at_.toNat .empty else ⟨#[]⟩
theorem peek_any (p bl : Nat) (cv : Value) (d : Dk) (at_ : Int) (w : World) (h : DiskAt p bl cv d w) :
    Calls Try.prog 34 #[.pointer (some ⟨p, 0, none⟩), .int .i64 at_] w fun e w' => e = .returned (.string (peek d at_)) ∧ w = w' := by
  have h0 := h.c0
  unfold peek
  by_cases hh : hasB d.lies.length at_ = true
  · rw [if_pos hh]
    have hh' := hh
    simp only [hasB, Bool.and_eq_true, decide_eq_true_eq] at hh'
    obtain ⟨k, rfl⟩ : ∃ k : Nat, at_ = k := ⟨at_.toNat, by omega⟩
    have hk : k < d.lies.length := by omega
    have hr := h.row k hk
    simp only [Int.toNat_natCast]
    obtain ⟨S, hS⟩ : ∃ S, S = d.lies.getD k .empty := ⟨_, rfl⟩
    rw [← hS] at hr ⊢
    clear hS
    go_enter Try.func34, Try.ntmps34
    go_wp2_with (go_at_call 48; refine (has_any _ _ _ _ _ _ h).mono ?_; rintro e w' ⟨rfl, rfl⟩; rw [hh])
    go_ret
    exact ⟨rfl, rfl⟩
  · rw [if_neg hh]
    have hh' : hasB d.lies.length at_ = false := by simpa using hh
    go_enter Try.func34, Try.ntmps34
    go_wp2_with (go_at_call 48; refine (has_any _ _ _ _ _ _ h).mono ?_; rintro e w' ⟨rfl, rfl⟩; rw [hh'])
    go_ret
    exact ⟨rfl, rfl⟩

theorem ends (d : Dk) : d = ⟨d.lies, d.cache, d.on, d.armed, d.left, d.steps⟩ := rfl
/-- The head alone is turned. -/
theorem DiskAt.rehead {p bl : Nat} {cv : Value} {d d' : Dk} {w w' : World} (h : DiskAt p bl cv d w) (ho : Only p w w') (hh : w'.heap[p]? = some (.cells (headC bl d.lies.length cv d') 58 (0, 0))) (h1 : d'.lies = d.lies) (h2 : d'.cache = d.cache)
    (hl : d'.left ≤ 9223372036854775807) (hs : d'.steps ≤ 1000000) : DiskAt p bl cv d' w' :=
  ⟨by rw [h1]; exact hh, by rw [h1]; exact (ho.block bl h.ltl (Ne.symm h.pl)).trans h.rows, by rw [h2]; exact h.cache.kept fun k e => ho.block k (h.ltc e) fun e' => h.pc (e' ▸ e), by intro x hx; rw [h2] at hx; rw [h1]; exact h.fit x hx, by rw [h1]; exact h.most, hl, hs, by rw [h2]; exact h.writes⟩
set_option maxHeartbeats 800000 in
theorem step_any (p bl : Nat) (cv : Value) (d : Dk) (w : World) (h : DiskAt p bl cv d w) (hs : d.steps < 1000000) :
    Calls Try.prog 43 #[.pointer (some ⟨p, 0, none⟩)] w fun e w' => e = .returned (.int .i64 (err d)) ∧ DiskAt p bl cv (Dsk.step d) w' ∧ Only p w w' := by
  have h2 := h.c2; have h3 := h.c3; have h4 := h.c4; have h5 := h.c5
  have f2 := h.fz 2; have f4 := h.fz 4; have f5 := h.fz 5
  have hh := h.head
  have hl := h.left
  have H := Lib.hid h
  clear h
  obtain ⟨L, C, on, armed, left, steps⟩ := d
  simp only at h2 h3 h4 h5 hs hl
  cases on with
  | false =>
    cases armed with
    | false =>
      go_enter Try.func43, Try.ntmps43
      go_wp2
      go_ret
      exact ⟨rfl, H.out, Only.refl _ _⟩
    | true =>
      by_cases hz : left = 0
      · subst hz
        go_enter Try.func43, Try.ntmps43
        go_wp2
        go_ret
        have ho : Only p w (w.setCell ⟨p, 2, none⟩ (.bool false)) := (Only.refl _ _).setCell _ _
        exact ⟨rfl, H.out.rehead ho (heap_set hh _) rfl rfl hl (show steps ≤ 1000000 by omega), ho⟩
      · have hz' : ¬ (left : Int) = 0 := by omega
        go_enter Try.func43, Try.ntmps43
        go_wp2
        go_ret
        exact ⟨rfl, H.out, Only.refl _ _⟩
  | true =>
    cases armed with
    | false =>
      go_enter Try.func43, Try.ntmps43
      go_wp2
      go_ret
      have ho : Only p w (w.setCell ⟨p, 5, none⟩ (.int .i64 ((steps : Int) + 1))) := (Only.refl _ _).setCell _ _
      exact ⟨rfl, H.out.rehead ho (heap_set hh _) rfl rfl hl (show steps + 1 ≤ 1000000 by omega), ho⟩
    | true =>
      by_cases hz : left = 0
      · subst hz
        go_enter Try.func43, Try.ntmps43
        go_wp2
        go_ret
        have ho : Only p w (w.setCell ⟨p, 2, none⟩ (.bool false)) := (Only.refl _ _).setCell _ _
        exact ⟨rfl, H.out.rehead ho (heap_set hh _) rfl rfl hl (show steps ≤ 1000000 by omega), ho⟩
      · have hz' : ¬ (left : Int) = 0 := by omega
        obtain ⟨l, rfl⟩ : ∃ l, left = l + 1 := ⟨left - 1, by omega⟩
        go_enter Try.func43, Try.ntmps43
        go_wp2
        go_ret
        have ho : Only p w ((w.setCell ⟨p, 4, none⟩ (.int .i64 l)).setCell ⟨p, 5, none⟩ (.int .i64 ((steps : Int) + 1))) := ((Only.refl _ _).setCell _ _).setCell _ _
        exact ⟨rfl, H.out.rehead ho (heap_set (heap_set hh _) _) rfl rfl (show l ≤ 9223372036854775807 by omega) (show steps + 1 ≤ 1000000 by omega), ho⟩
theorem arm_any (p bl : Nat) (cv : Value) (d : Dk) (n : Int) (w : World) (h : DiskAt p bl cv d w) (hn : n ≤ 9223372036854775807) :
    Calls Try.prog 21 #[.pointer (some ⟨p, 0, none⟩), .int .i64 n] w fun e w' => e = .returned (.tuple #[]) ∧ DiskAt p bl cv (arm d n.toNat) w' ∧ Only p w w' := by
  have h2 := h.c2; have h3 := h.c3; have h4 := h.c4
  have f3 := h.fz 3; have f4 := h.fz 4
  have hh := h.head
  have hs := h.steps
  have H := Lib.hid h
  obtain ⟨L, C, on, armed, left, steps⟩ := d
  simp only at h2 h3 h4
  cases on with
  | false =>
    go_enter Try.func21, Try.ntmps21
    go_wp2_with (go_at_call 29; refine (on_any _ _ _ _ _ h).mono ?_; rintro e w' ⟨rfl, rfl⟩)
    go_end0
    exact ⟨rfl, H.out, Only.refl _ _⟩
  | true =>
    rcases (show n < 0 ∨ ∃ k : Nat, n = k by by_cases hx : n < 0; exact .inl hx; exact .inr ⟨n.toNat, by omega⟩) with hneg | ⟨k, rfl⟩
    · rw [show n.toNat = 0 by omega]
      go_enter Try.func21, Try.ntmps21
      go_wp2_with (go_at_call 29; refine (on_any _ _ _ _ _ h).mono ?_; rintro e w' ⟨rfl, rfl⟩)
      go_end0
      have ho : Only p w ((w.setCell ⟨p, 3, none⟩ (.bool true)).setCell ⟨p, 4, none⟩ (.int .i64 (0 : Nat))) := ((Only.refl _ _).setCell _ _).setCell _ _
      exact ⟨rfl, H.out.rehead ho (heap_set (heap_set hh _) _) rfl rfl (show (0 : Nat) ≤ 9223372036854775807 by omega) hs, ho⟩
    · rw [Int.toNat_natCast]
      go_enter Try.func21, Try.ntmps21
      go_wp2_with (go_at_call 29; refine (on_any _ _ _ _ _ h).mono ?_; rintro e w' ⟨rfl, rfl⟩)
      go_end0
      have ho : Only p w ((w.setCell ⟨p, 3, none⟩ (.bool true)).setCell ⟨p, 4, none⟩ (.int .i64 k)) := ((Only.refl _ _).setCell _ _).setCell _ _
      exact ⟨rfl, H.out.rehead ho (heap_set (heap_set hh _) _) rfl rfl (show k ≤ 9223372036854775807 by omega) hs, ho⟩
theorem arm_nil (n : Int) (w : World) :
    Calls Try.prog 21 #[.pointer none, .int .i64 n] w fun e w' => e = .returned (.tuple #[]) ∧ w = w' := by
  go_enter Try.func21, Try.ntmps21
  go_wp2_with (go_at_call 29; refine (on_nil _).mono ?_; rintro e w' ⟨rfl, rfl⟩)
  go_end0
  exact ⟨rfl, rfl⟩
end Go.Proofs.Ytkoojbbimjjndaa
