/-
  Package front: its calls in one look: a front with n leaves, whose whole parts have the roots P.
-/
import Derived.Test.YtgiakpnkidblpaaDoorFrontRead
import Derived.Test.YtgiakpnkidblpaaDoorFrontAddE
import Derived.Test.YtgiakpnkidblpaaDoorRLevels
namespace Go.Proofs.YtgiakpnkidblpaaDoor
open Go.RowKit

/-- Block b is a front of n leaves, whose whole parts' roots are P. -/
def FP (b n : Nat) (P : Hs) (w : World) : Prop := n ≤ 1099511627776 ∧ b ≠ 0 ∧ ∃ Q, Front b n Q w ∧ Q.take (Tree.ones n) = P
theorem FP.len {b n : Nat} {P : Hs} {w : World} (h : FP b n P w) : P.length = Tree.ones n := by
  obtain ⟨hn, -, Q, hf, rfl⟩ := h
  have := Tree.ones_most n hn
  rw [List.length_take, hf.1]; omega
theorem FP.ok {b n : Nat} {P : Hs} {w : World} (h : FP b n P w) : all32 P := by
  obtain ⟨hn, -, Q, hf, rfl⟩ := h
  exact hf.2.1.take _
theorem FP.len40 {b n : Nat} {P : Hs} {w : World} (h : FP b n P w) : P.length ≤ 40 := by
  rw [h.len]; exact Tree.ones_most n h.1
theorem FP.lt {b n : Nat} {P : Hs} {w : World} (h : FP b n P w) : b < w.heap.size := by
  obtain ⟨-, -, Q, hf, -⟩ := h
  exact hf.lt
theorem FP.old {b n : Nat} {P : Hs} {w w' : World} (h : FP b n P w) (k : Below w.heap.size w w') : FP b n P w' := by
  obtain ⟨hn, hb, Q, hf, hq⟩ := h
  exact ⟨hn, hb, Q, hf.old' k, hq⟩
theorem FP.kept {b q n : Nat} {P : Hs} {w w' : World} (h : FP b n P w) (k : Only q w w') (hq : b ≠ q) : FP b n P w' := by
  obtain ⟨hn, hb, Q, hf, he⟩ := h
  exact ⟨hn, hb, Q, hf.kept k hq, he⟩
theorem new_fp (w : World) (h0 : 0 < w.heap.size) :
    Calls Tryd.prog 11 #[] w fun e w' => e = .returned (.pointer (some ⟨w.heap.size, 0, none⟩)) ∧ FP w.heap.size 0 [] w' ∧ Below w.heap.size w w' :=
  (frontNew_any w).mono fun e w' ⟨h1, h2, h3⟩ => ⟨h1, ⟨by omega, by omega, zQ, h2, by rw [Tree.ones_zero]; rfl⟩, h3⟩
theorem add_fp (b n : Nat) (P : Hs) (x : List UInt8) (w : World) (h : FP b n P w) (hn : n < 1099511627776) (hx : x.length = 32) (hK : KT w) :
    Calls Tryd.prog 20 #[.pointer (some ⟨b, 0, none⟩), sumV x] w fun e w' => e = .returned (.int .i64 ((n + 1 : Nat) : Int)) ∧ FP b (n + 1) (Tree.addP n P x) w' ∧ Only b w w' := by
  obtain ⟨-, hb, Q, hf, rfl⟩ := h
  exact (fadd_any b n Q x w hf hn hb hx hK).mono fun e w' ⟨h1, ⟨Q', h2, h3⟩, h4⟩ => ⟨h1, ⟨by omega, hb, Q', h2, h3⟩, h4⟩
theorem size_fp (b n : Nat) (P : Hs) (w : World) (h : FP b n P w) :
    Calls Tryd.prog 15 #[.pointer (some ⟨b, 0, none⟩)] w fun e w' => e = .returned (.int .i64 (n : Int)) ∧ w = w' := by
  obtain ⟨-, -, Q, hf, -⟩ := h
  exact fsize_any b n Q w hf
theorem peaks_fp (b n : Nat) (P : Hs) (w : World) (h : FP b n P w) :
    Calls Tryd.prog 14 #[.pointer (some ⟨b, 0, none⟩)] w fun e w' => ∃ v', e = .returned v' ∧ OwnS w.heap.size w' v' P ∧ Below w.heap.size w w' := by
  obtain ⟨hn, -, Q, hf, rfl⟩ := h
  exact fpeaks_any b n Q w hf hn
theorem root_fp (b n : Nat) (P : Hs) (w : World) (h : FP b n P w) (hK : KT w) :
    Calls Tryd.prog 16 #[.pointer (some ⟨b, 0, none⟩)] w fun e w' => e = .returned (sumV (Tree.rootP P)) ∧ Below w.heap.size w w' :=
  froot_gen _ P w (fun u hu => peaks_fp b n P u (h.old hu)) h.len40 h.ok hK
theorem bytes_fp (b n : Nat) (P : Hs) (w : World) (h : FP b n P w) :
    Calls Tryd.prog 18 #[.pointer (some ⟨b, 0, none⟩)] w fun e w' => e = .returned (.string (frontB n P)) ∧ Below w.heap.size w w' :=
  fbytes_gen _ n P w (fun u hu => peaks_fp b n P u (h.old hu)) (fun u hu => size_fp b n P u (h.old hu)) h.1 h.len40 h.ok
theorem copy_fp (b n : Nat) (P : Hs) (w : World) (h : FP b n P w) :
    Calls Tryd.prog 24 #[.pointer (some ⟨b, 0, none⟩)] w fun e w' => e = .returned (.pointer (some ⟨w.heap.size, 0, none⟩)) ∧ FP w.heap.size n P w' ∧ Below w.heap.size w w' := by
  have hlt := h.lt
  obtain ⟨hn, -, Q, hf, hq⟩ := h
  exact (fcopy_any b n Q w hf).mono fun e w' ⟨h1, h2, h3⟩ => ⟨h1, ⟨hn, by omega, Q, h2, hq⟩, h3⟩
theorem frontB_size (n : Nat) (P : Hs) (hn : n < 18446744073709551616) (hl : P.length ≤ 41) (ha : all32 P) : (frontB n P).size ≤ 100000 := by
  have h1 := txts_length (strS P) (strS_small P ha)
  have h2 := putL_le (strS P).length (by rw [strS_length]; omega)
  have h3 := putL_le n hn
  rw [strS_length] at h1 h2
  rw [Lib.size_eq, frontB_data, List.length_append, listL, List.length_append, strS_length]
  omega
theorem read_fp (n : Nat) (P : Hs) (w : World) (hn : n ≤ 1099511627776) (hl : P.length = Tree.ones n) (ha : all32 P) (h0 : 0 < w.heap.size) :
    Calls Tryd.prog 21 #[.string (frontB n P)] w fun e w' => ∃ b, e = .returned (.tuple #[.pointer (some ⟨b, 0, none⟩), .int .i64 0]) ∧ w.heap.size ≤ b ∧ FP b n P w' ∧ Below w.heap.size w w' := by
  obtain ⟨e1, e2⟩ := okF_put n P hn hl ha
  have h40 := Tree.ones_most n hn
  have hok : okF (frontB n P).data.toList := by
    unfold okF
    rw [e1, e2]
    exact ⟨rfl, hl, ha⟩
  refine (fread_any (frontB n P) w (frontB_size n P (by omega) (by omega) ha)).mono fun e w' ⟨hb, h⟩ => ?_
  rcases h with ⟨-, b, Q, hbw, he, hf, hq⟩ | ⟨hno, -⟩
  · rw [e1] at hf hq
    rw [e2] at hq
    exact ⟨b, he, hbw, ⟨hn, by omega, Q, hf, hq⟩, hb⟩
  · exact absurd hok hno
theorem read_big (n : Nat) (P : Hs) (w : World) (hn : 1099511627776 < n) (h64 : n < 18446744073709551616) (hl : P.length ≤ 41) (ha : all32 P) :
    Calls Tryd.prog 21 #[.string (frontB n P)] w fun e w' => e = .returned (.tuple #[.pointer none, .int .i64 10]) ∧ Below w.heap.size w w' := by
  obtain ⟨e1, e2⟩ := okF_big n P hn h64
  have hok : ¬ okF (frontB n P).data.toList := by
    unfold okF
    rw [e1, e2]
    rintro ⟨h, -⟩
    cases h
  refine (fread_any (frontB n P) w (frontB_size n P h64 hl ha)).mono fun e w' ⟨hb, h⟩ => ?_
  rcases h with ⟨hyes, -⟩ | ⟨-, he⟩
  · exact absurd hyes hok
  · exact ⟨he, hb⟩
theorem frontB_0 : frontB 0 [] = ⟨#[0, 0]⟩ := by decide
theorem peaks_none (w : World) (hK : KT w) : Calls Tryd.prog 16 #[.pointer none] w fun e w' => e = .returned (sumV Tree.empty) ∧ Below w.heap.size w w' :=
  froot_gen _ [] w (fun u _ => (fpeaks_nil u).mono fun e w' ⟨h1, h2⟩ => ⟨_, h1, OwnS.nil _ _, h2 ▸ Below.refl _ _⟩) (by simp) all32.nil hK
theorem bytes_none (w : World) : Calls Tryd.prog 18 #[.pointer none] w fun e w' => e = .returned (.string ⟨#[0, 0]⟩) ∧ Below w.heap.size w w' := by
  have := fbytes_gen (.pointer none) 0 [] w (fun u _ => (fpeaks_nil u).mono fun e w' ⟨h1, h2⟩ => ⟨_, h1, OwnS.nil _ _, h2 ▸ Below.refl _ _⟩) (fun u _ => fsize_nil u) (by decide) (by simp) all32.nil
  rwa [frontB_0] at this
/-- Roots, as they are added one by one. -/
theorem addP_take (l : Hs) (i : Nat) (h : i < l.length) : Tree.addP i (Tree.peaks (l.take i)) l[i] = Tree.peaks (l.take (i + 1)) := by
  have := Tree.addP_peaks (l.take i) l[i]
  rwa [List.length_take, Nat.min_eq_left (Nat.le_of_lt h), ← List.take_succ_eq_append_getElem h] at this
end Go.Proofs.YtgiakpnkidblpaaDoor
