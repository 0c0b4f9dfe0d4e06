/-
  The document's own scanner: what Long does where there is a number; and in one sentence of all.
-/
import Derived.Test.YtnieebkkpmdgmaaOctRScan
namespace Go.Proofs.Ytnieebkkpmdgmaa
open Go.RowKit

theorem drop_step (S : ByteArray) (p j : Nat) (h : p + 1 + j < S.size) : (S.data.toList.drop (p + 1)).take (j + 1) = (S.data.toList.drop (p + 1)).take j ++ [S[p + 1 + j]] := by
  have hl : j < (S.data.toList.drop (p + 1)).length := by rw [drop_len]; omega
  rw [List.take_succ_eq_append_getElem hl]
  congr 2
  rw [List.getElem_drop]
  rfl

theorem u64_in (n : Int) (h0 : 0 ≤ n) (h1 : n ≤ 18446744073709551615) : IntKind.u64.wrap n = n := by
  simp [IntKind.wrap, IntKind.bits, IntKind.signed]; omega

set_option maxHeartbeats 3200000 in
theorem rlong_d (b : Nat) (S : ByteArray) (p k : Nat) (w : World) (h : RAt b S p false w) (hS : S.size ≤ 1099511627776) (hp : p < S.size) (hk : S[p].toNat = k) (h8 : (k : Int) ≤ 8) (hl : ¬ (S.size : Int) - p - 1 < k) (hz : k = 0 ∨ (0 < k ∧ ∃ h1 : p + 1 < S.size, ((S[p + 1].toNat : Int) == 0) = false)) :
    Calls Try.prog 67 #[.pointer (some ⟨b, 0, none⟩)] w fun e w' => e = .returned (.int .u64 (Oct.val ((S.data.toList.drop (p + 1)).take k))) ∧ RAt b S (p + 1 + k) false w' ∧ Only b w w' := by
  have c0 := h.c0
  have c1 := h.c1
  have c2 := h.c2
  have f1 := h.fz 1
  have H := Lib.hid h
  have hd : decide (S.size ≤ p) = false := by simpa using hp
  have hp0 : (0 : Int) ≤ (p : Int) := by omega
  have hp1 : (p : Int) < (S.size : Int) := by omega
  have k0 := IntWalk.i64_in (k : Int) (by omega)
  have k1 := IntWalk.i64_in ((S.size : Int) - (p : Int)) (by omega)
  have k2 := IntWalk.i64_in ((S.size : Int) - (p : Int) - 1) (by omega)
  have k3 := IntWalk.i64_in ((p : Int) + 1) (by omega)
  have k4 : (0 : Int) ≤ (p : Int) + 1 := by omega
  have k5 : ((p : Int) + 1).toNat = p + 1 := by omega
  have h8' : decide ((8 : Int) < (k : Int)) = false := by simpa using h8
  have hl' : decide ((S.size : Int) - p - 1 < (k : Int)) = false := by simpa using hl
  clear h
  rcases hz with hz | ⟨hz, h1, hz0⟩
  · have hk1 : decide ((0 : Int) < (k : Int)) = false := by simp [hz]
    have hk2 : decide (0 < k) = false := by simp [hz]
    have HZ := Lib.hid hz
    clear hz
    go_enter Try.func67, Try.ntmps67
    go_wp2
    go_quiet (fail)
    go_wp2
    go_quiet (fail)
    go_wp2
    go_quiet (fail)
    go_wp2
    go_loopw [4, 5] (fun v x wr => ∃ (i n : Nat), 1 ≤ i ∧ i ≤ k + 1 ∧ Hid (n = Oct.val ((S.data.toList.drop (p + 1)).take (i - 1))) ∧ x = .int .i64 i ∧ v = .int .u64 n ∧ RAt b S p false wr ∧ Only b w wr)
      (fun _ x _ => k + 1 - (intOf x).toNat)
    case atStart => exact ⟨1, 0, by omega, by omega, rfl, rfl, rfl, H.out, (((Only.refl b w).drewN _).drewN _).drewN _⟩
    case round =>
      obtain ⟨i, n, hi1, hi2, hn, rfl, rfl, hR, hO⟩ := hrel
      have d0 := hR.c0
      have d1 := hR.c1
      have g1 := hR.fz 1
      have HR := Lib.hid hR
      clear hR H
      by_cases hlt : i ≤ k
      · have hpi : p + i < S.size := by omega
        obtain ⟨y, hy⟩ : ∃ y : Nat, S[p + i].toNat = y := ⟨_, rfl⟩
        have hyl : y < 256 := by rw [← hy]; exact S[p + i].toNat_lt
        have hN : n < 72057594037927936 := by
          have h1 := Oct.val_lt (i - 1) ((S.data.toList.drop (p + 1)).take (i - 1)) (by rw [List.length_take, drop_len]; omega)
          have h2 : 256 ^ (i - 1) ≤ 256 ^ 7 := Nat.pow_le_pow_right (by decide) (by omega)
          have := hn.out
          omega
        have hn' : Hid (n * 256 + y = Oct.val ((S.data.toList.drop (p + 1)).take (i + 1 - 1))) := by
          have hpj : p + 1 + (i - 1) < S.size := by omega
          have ey : S[p + 1 + (i - 1)].toNat = y := by
            rw [← hy]; congr 2; omega
          show _ = _
          rw [show i + 1 - 1 = (i - 1) + 1 by omega, drop_step S p (i - 1) hpj, Oct.val_snoc, ← hn.out, ey]
        have hpi0 : (0 : Int) ≤ (p : Int) + (i : Int) := by omega
        have hpi1 : (p : Int) + (i : Int) < (S.size : Int) := by omega
        have hpi2 : ((p : Int) + (i : Int)).toNat = p + i := by omega
        have q1 := IntWalk.i64_in ((p : Int) + (i : Int)) (by omega)
        have q2 := u64_in ((n : Int) * 256) (by omega) (by omega)
        have q3 := u64_in ((n : Int) * 256 + (y : Int)) (by omega) (by omega)
        have q4 := u64_in (y : Int) (by omega) (by omega)
        go_wp2
        go_quiet (fail)
        go_wp2
        go_roundw
        case rel => exact ⟨i + 1, n * 256 + y, by omega, by omega, hn', by go_num, by go_num, HR.out, hO.drewN _⟩
        case measure => simp [intOf]; omega
      · obtain rfl : k = i - 1 := by omega
        go_wp2
        go_ret
        have e : (p : Int) + 1 + ((i - 1 : Nat) : Int) = ((p + 1 + (i - 1) : Nat) : Int) := by omega
        refine ⟨ret_int (by rw [hn.out]), ?_, hO.setCell _ _⟩
        rw [e]
        exact HR.out.set1 _
  · have hk1 : decide ((0 : Int) < (k : Int)) = true := by simpa using hz
    have hk2 : decide (0 < k) = true := by simpa using hz
    have h1' : (p : Int) + 1 < (S.size : Int) := by omega
    go_enter Try.func67, Try.ntmps67
    go_wp2
    go_quiet (fail)
    go_wp2
    go_quiet (fail)
    go_wp2
    go_quiet (fail)
    go_wp2
    go_loopw [4, 5] (fun v x wr => ∃ (i n : Nat), 1 ≤ i ∧ i ≤ k + 1 ∧ Hid (n = Oct.val ((S.data.toList.drop (p + 1)).take (i - 1))) ∧ x = .int .i64 i ∧ v = .int .u64 n ∧ RAt b S p false wr ∧ Only b w wr)
      (fun _ x _ => k + 1 - (intOf x).toNat)
    case atStart => exact ⟨1, 0, by omega, by omega, rfl, rfl, rfl, H.out, (((Only.refl b w).drewN _).drewN _).drewN _⟩
    case round =>
      obtain ⟨i, n, hi1, hi2, hn, rfl, rfl, hR, hO⟩ := hrel
      have d0 := hR.c0
      have d1 := hR.c1
      have g1 := hR.fz 1
      have HR := Lib.hid hR
      clear hR H
      by_cases hlt : i ≤ k
      · have hpi : p + i < S.size := by omega
        obtain ⟨y, hy⟩ : ∃ y : Nat, S[p + i].toNat = y := ⟨_, rfl⟩
        have hyl : y < 256 := by rw [← hy]; exact S[p + i].toNat_lt
        have hN : n < 72057594037927936 := by
          have h1 := Oct.val_lt (i - 1) ((S.data.toList.drop (p + 1)).take (i - 1)) (by rw [List.length_take, drop_len]; omega)
          have h2 : 256 ^ (i - 1) ≤ 256 ^ 7 := Nat.pow_le_pow_right (by decide) (by omega)
          have := hn.out
          omega
        have hn' : Hid (n * 256 + y = Oct.val ((S.data.toList.drop (p + 1)).take (i + 1 - 1))) := by
          have hpj : p + 1 + (i - 1) < S.size := by omega
          have ey : S[p + 1 + (i - 1)].toNat = y := by
            rw [← hy]; congr 2; omega
          show _ = _
          rw [show i + 1 - 1 = (i - 1) + 1 by omega, drop_step S p (i - 1) hpj, Oct.val_snoc, ← hn.out, ey]
        have hpi0 : (0 : Int) ≤ (p : Int) + (i : Int) := by omega
        have hpi1 : (p : Int) + (i : Int) < (S.size : Int) := by omega
        have hpi2 : ((p : Int) + (i : Int)).toNat = p + i := by omega
        have q1 := IntWalk.i64_in ((p : Int) + (i : Int)) (by omega)
        have q2 := u64_in ((n : Int) * 256) (by omega) (by omega)
        have q3 := u64_in ((n : Int) * 256 + (y : Int)) (by omega) (by omega)
        have q4 := u64_in (y : Int) (by omega) (by omega)
        go_wp2
        go_quiet (fail)
        go_wp2
        go_roundw
        case rel => exact ⟨i + 1, n * 256 + y, by omega, by omega, hn', by go_num, by go_num, HR.out, hO.drewN _⟩
        case measure => simp [intOf]; omega
      · obtain rfl : k = i - 1 := by omega
        go_wp2
        go_ret
        have e : (p : Int) + 1 + ((i - 1 : Nat) : Int) = ((p + 1 + (i - 1) : Nat) : Int) := by omega
        refine ⟨ret_int (by rw [hn.out]), ?_, hO.setCell _ _⟩
        rw [e]
        exact HR.out.set1 _

/-- WHAT THE DOCUMENT's Long DOES, of every scanner. -/
theorem rlong_any (b : Nat) (S : ByteArray) (st : Option (List UInt8)) (w : World) (hS : S.size ≤ 1099511627776) (h : RScn b S st w) :
    Calls Try.prog 67 #[.pointer (some ⟨b, 0, none⟩)] w fun e w' => e = .returned (.int .u64 (longV st)) ∧ RScn b S (longS st) w' ∧ Only b w w' := by
  obtain ⟨p, bad, hp, hR, hst⟩ := h
  cases bad with
  | true =>
    simp at hst
    subst hst
    exact (rlong_bad b S p w hR).mono fun e w' ⟨he, h1, h2⟩ => ⟨he, ⟨p, true, hp, h1, rfl⟩, h2⟩
  | false =>
    simp at hst
    subst hst
    have fails : Oct.num? (S.data.toList.drop p) = none → (Calls Try.prog 67 #[.pointer (some ⟨b, 0, none⟩)] w fun e w' => e = .returned (.int .u64 0) ∧ RAt b S p true w' ∧ Only b w w') →
        Calls Try.prog 67 #[.pointer (some ⟨b, 0, none⟩)] w fun e w' => e = .returned (.int .u64 (longV (some (S.data.toList.drop p)))) ∧ RScn b S (longS (some (S.data.toList.drop p))) w' ∧ Only b w w' := fun hn hc =>
      hc.mono fun e w' ⟨he, h1, h2⟩ => ⟨by simp [longV, hn, he], ⟨p, true, hp, h1, by simp [longS, hn]⟩, h2⟩
    by_cases hlt : p < S.size
    · have hn := num_at S p hlt
      by_cases hA : 8 < S[p].toNat
      · exact fails (by rw [hn, if_pos (Or.inl hA)]) (rlong_a b S p w hR hS hlt (by omega))
      · by_cases hB : S.size - (p + 1) < S[p].toNat
        · exact fails (by rw [hn, if_pos (Or.inr (Or.inl hB))]) (rlong_b b S p w hR hS hlt (by omega) (by omega))
        · by_cases hC : 0 < S[p].toNat ∧ (S.data.toList.drop (p + 1)).headD 0 = 0
          · have h1 : p + 1 < S.size := by omega
            have hz := hC.2
            rw [drop_head S p h1] at hz
            exact fails (by rw [hn, if_pos (Or.inr (Or.inr hC))]) (rlong_c b S p w hR hS hlt (by omega) (by omega) (by omega) h1 (by rw [hz]; rfl))
          · have hn' : Oct.num? (S.data.toList.drop p) = some (Oct.val ((S.data.toList.drop (p + 1)).take S[p].toNat), 1 + S[p].toNat) := by
              rw [hn, if_neg]; rintro (h | h | h)
              · exact hA h
              · exact hB h
              · exact hC h
            refine (rlong_d b S p _ w hR hS hlt rfl (by omega) (by omega) ?_).mono fun e w' ⟨he, h1, h2⟩ => ⟨by simp [longV, hn', he], ⟨p + 1 + S[p].toNat, false, by omega, h1, ?_⟩, h2⟩
            · by_cases h0 : 0 < S[p].toNat
              · right
                have h1 : p + 1 < S.size := by omega
                refine ⟨h0, h1, ?_⟩
                rw [beq_eq_false_iff_ne]
                intro e
                refine hC ⟨h0, ?_⟩
                rw [drop_head S p h1]
                apply UInt8.toNat_inj.1
                simpa using e
              · left; omega
            · simp [longS, hn']; omega
    · exact fails (num_end S p (by omega)) (rlong_end b S p w hR hS (by omega) (by omega))

end Go.Proofs.Ytnieebkkpmdgmaa
