/-
  Package extent: Take.
-/
import Derived.Test.YtlbnopfbfnobnaaExtSplit
namespace Go.Proofs.Ytlbnopfbfnobnaa
open Go.RowKit Ext

def tkB (l : List Rn) (n : Int) : Bool := chk 0 l && decide (0 ≤ n) && decide (n ≤ tot l)
def tkA (l : List Rn) (n : Int) : List Rn := if tkB l n = true then sf l n else []
def tkR (l : List Rn) (n : Int) : List Rn := if tkB l n = true then sg l n else l
theorem tk_no {l : List Rn} {n : Int} (h : tkB l n = false) : tkA l n = [] ∧ tkR l n = l := by
  unfold tkA tkR; rw [h]; exact ⟨rfl, rfl⟩
set_option maxHeartbeats 3200000 in
set_option maxRecDepth 100000 in
theorem take_any (v : Value) (l : List Rn) (n : Int) (w : World) (hl : Runs w v l) (hn1 : -9223372036854775808 ≤ n) (hn2 : n ≤ 9223372036854775807) (hln : l.length ≤ 1000) :
    Calls Try.prog 12 #[v, .int .i64 n] w fun e w' => ∃ v1 v2, e = .returned (.tuple #[v1, v2, .bool (tkB l n)]) ∧ Runs w' v1 (tkA l n) ∧ Runs w' v2 (tkR l n) ∧ Below w.heap.size w w' := by
  obtain ⟨va, cap, rfl, hlc, hcap⟩ := hl.slice
  have hck := check_any _ l w hl
  cases hc : chk 0 l with
  | false =>
    have hb : tkB l n = false := by unfold tkB; rw [hc]; rfl
    have HK := Lib.hid (tk_no hb)
    have HB := Lib.hid hb
    rw [show chkE l = 1 by unfold chkE; rw [hc]; rfl] at hck
    clear hb
    go_enter Try.func12, Try.ntmps12
    go_wp2_with (first
      | (go_at_call 27; refine hck.mono ?_; rintro e w2 ⟨rfl, b2⟩; replace hl := hl.old b2)
      | (go_at_call 29; refine (clone_any _ l _ hl (by omega)).mono ?_; rintro e w3 ⟨v3, rfl, h3, b3⟩))
    exact bodyPost_ret (v := .tuple #[.slice none 0 0, v3, .bool false]) (by simp [results, Try.results12, go_sem]) rfl ⟨_, v3, by rw [HB.out], by rw [HK.out.1]; exact Runs.nil _, by rw [HK.out.2]; exact h3, below_step b2 (Nat.le_refl _) b3⟩
  | true =>
    have hf := chk_file hc
    rw [show chkE l = 0 by unfold chkE; rw [hc]; rfl] at hck
    by_cases h0 : 0 ≤ n
    · have h0' : ¬ n < 0 := by omega
      by_cases ht : n ≤ tot l
      · have hb : tkB l n = true := by unfold tkB; rw [hc, decide_eq_true h0, decide_eq_true ht]; rfl
        have HB := Lib.hid hb
        obtain ⟨T, hT⟩ : ∃ T, T = tot l := ⟨_, rfl⟩
        have hto := fun u (hu : Runs u (.slice va l.length cap) l) => total_any _ l u hu hf (by omega)
        rw [← hT] at hto ht
        have ht' : ¬ T < n := by omega
        have hsp := fun u (hu : Runs u (.slice va l.length cap) l) => split_any _ l n u hu hf hn1 hn2 hln
        rw [Int.max_eq_left h0] at hsp
        clear hb hT
        go_enter Try.func12, Try.ntmps12
        go_wp2_with (first
          | (go_at_call 27; refine hck.mono ?_; rintro e w2 ⟨rfl, b2⟩; replace hl := hl.old b2)
          | (go_at_call 26; refine (hto _ hl).mono ?_; rintro e w3 ⟨rfl, b3⟩; replace hl := hl.old b3)
          | (go_at_call 30; refine (hsp _ hl).mono ?_; rintro e w4 ⟨v1, v2, rfl, h1, h2, b4⟩))
        exact bodyPost_ret (v := .tuple #[v1, v2, .bool true]) (by simp [results, Try.results12, go_sem]) rfl ⟨v1, v2, by rw [HB.out], by unfold tkA; rw [if_pos HB.out]; exact h1, by unfold tkR; rw [if_pos HB.out]; exact h2, below_step (below_step b2 (Nat.le_refl _) b3) (Nat.le_refl _) b4⟩
      · have hb : tkB l n = false := by unfold tkB; rw [decide_eq_false ht, Bool.and_false]
        have HK := Lib.hid (tk_no hb)
        have HB := Lib.hid hb
        obtain ⟨T, hT⟩ : ∃ T, T = tot l := ⟨_, rfl⟩
        have hto := fun u (hu : Runs u (.slice va l.length cap) l) => total_any _ l u hu hf (by omega)
        rw [← hT] at hto ht
        have ht' : T < n := by omega
        clear hb hT
        go_enter Try.func12, Try.ntmps12
        go_wp2_with (first
          | (go_at_call 27; refine hck.mono ?_; rintro e w2 ⟨rfl, b2⟩; replace hl := hl.old b2)
          | (go_at_call 26; refine (hto _ hl).mono ?_; rintro e w3 ⟨rfl, b3⟩; replace hl := hl.old b3)
          | (go_at_call 29; refine (clone_any _ l _ hl (by omega)).mono ?_; rintro e w4 ⟨v3, rfl, h3, b4⟩))
        exact bodyPost_ret (v := .tuple #[.slice none 0 0, v3, .bool false]) (by simp [results, Try.results12, go_sem]) rfl ⟨_, v3, by rw [HB.out], by rw [HK.out.1]; exact Runs.nil _, by rw [HK.out.2]; exact h3, below_step (below_step b2 (Nat.le_refl _) b3) (Nat.le_refl _) b4⟩
    · have hb : tkB l n = false := by unfold tkB; rw [decide_eq_false h0, Bool.and_false, Bool.false_and]
      have HK := Lib.hid (tk_no hb)
      have HB := Lib.hid hb
      have h0' : n < 0 := by omega
      clear hb
      go_enter Try.func12, Try.ntmps12
      go_wp2_with (first
        | (go_at_call 27; refine hck.mono ?_; rintro e w2 ⟨rfl, b2⟩; replace hl := hl.old b2)
        | (go_at_call 29; refine (clone_any _ l _ hl (by omega)).mono ?_; rintro e w3 ⟨v3, rfl, h3, b3⟩))
      exact bodyPost_ret (v := .tuple #[.slice none 0 0, v3, .bool false]) (by simp [results, Try.results12, go_sem]) rfl ⟨_, v3, by rw [HB.out], by rw [HK.out.1]; exact Runs.nil _, by rw [HK.out.2]; exact h3, below_step b2 (Nat.le_refl _) b3⟩
end Go.Proofs.Ytlbnopfbfnobnaa
