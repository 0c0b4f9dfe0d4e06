/-
  Plain mathematics of package record: what a row's bytes are read as; what was written is read again.
-/
import Derived.Test.YtbhalioajekfcaaDoorRecRead
import Derived.Test.YtbhalioajekfcaaDoorRecRow
import Derived.Test.YtbhalioajekfcaaDoorMOctL
namespace Go.Proofs.YtbhalioajekfcaaDoor
open Go.RowKit

/-- The time, the payload, and what is left behind them. -/
def rTim (l : List UInt8) : Nat := numV (some l) 1125899906842624
def rMid (l : List UInt8) : Option (List UInt8) := numS (some l) 1125899906842624
def rPay (l : List UInt8) : ByteArray := ⟨(textV (rMid l) 2000).toArray⟩
def rRest (l : List UInt8) : Option (List UInt8) := textS (rMid l) 2000
/-- The records of a window whose row l is, from place i on. -/
def rowsG (win : Int) : Nat → Nat → List UInt8 → Option (List RecR)
  | _, _, [] => some []
  | 0, _, _ :: _ => none
  | f + 1, i, b :: t =>
    match rRest (b :: t) with
    | none => none
    | some l' => if chkZ win i (rTim (b :: t)) (rPay (b :: t)) = 0 then (rowsG win f (i + 1) l').map fun r => ⟨win, i, rTim (b :: t), rPay (b :: t)⟩ :: r else none
/-- The records of a window whose row l is. -/
def rowsR (win : Int) (l : List UInt8) : Option (List RecR) := rowsG win l.length 0 l
theorem rowsG_step (win : Int) (f i : Nat) (l : List UInt8) (hl : l ≠ []) : rowsG win (f + 1) i l = match rRest l with
    | none => none
    | some l' => if chkZ win i (rTim l) (rPay l) = 0 then (rowsG win f (i + 1) l').map fun r => ⟨win, i, rTim l, rPay l⟩ :: r else none := by
  cases l with
  | nil => exact absurd rfl hl
  | cons b t => rfl
theorem rowsG_nil (win : Int) (f i : Nat) : rowsG win f i [] = some [] := by cases f <;> rfl
theorem rRest_lt {l l' : List UInt8} (h : rRest l = some l') : l'.length < l.length := by
  unfold rRest at h
  cases hm : rMid l with
  | none => rw [hm] at h; simp [textS, numS, longS, longV] at h
  | some q =>
    rw [hm] at h
    have h1 := textS_lt q l' 2000 h
    have h2 := numS_lt l q 1125899906842624 hm
    omega
theorem rRest_nil : rRest [] = none := by decide
theorem numV_most (st : Option (List UInt8)) (most : Nat) : numV st most ≤ most := by
  unfold numV
  split
  · exact Nat.zero_le _
  · omega
theorem textV_most (st : Option (List UInt8)) (most : Nat) : (textV st most).length ≤ most := by
  have := numV_most st most
  unfold textV
  split
  · exact Nat.zero_le _
  · rw [List.length_take]; omega
theorem rTim_le (l : List UInt8) : (rTim l : Int) ≤ 1125899906842624 := by have := numV_most (some l) 1125899906842624; unfold rTim; simp only [Int.cast_ofNat_Int] at this ⊢; omega
theorem rPay_le (l : List UInt8) : (rPay l).size ≤ 2000 := by have := textV_most (rMid l) 2000; simpa [rPay, ByteArray.size] using this
/-- What Rows' loop keeps: acc has come, rest is left. -/
def RowInv (win : Int) (L : List UInt8) (acc : List RecR) (rest : List UInt8) : Prop :=
  ∃ f, rest.length ≤ f ∧ rowsR win L = (rowsG win f acc.length rest).map fun r => acc ++ r
theorem RowInv.start (win : Int) (L : List UInt8) : RowInv win L [] L := ⟨L.length, Nat.le_refl _, by simp [rowsR]⟩
theorem RowInv.done {win : Int} {L : List UInt8} {acc : List RecR} (h : RowInv win L acc []) : rowsR win L = some acc := by
  obtain ⟨f, _, e⟩ := h
  rw [e, rowsG_nil]; simp
theorem RowInv.bad {win : Int} {L : List UInt8} {acc : List RecR} {rest : List UInt8} (h : RowInv win L acc rest) (hn : rest ≠ []) (hr : rRest rest = none) : rowsR win L = none := by
  obtain ⟨f, hf, e⟩ := h
  cases f with
  | zero => exact absurd (List.eq_nil_of_length_eq_zero (Nat.le_zero.1 hf)) hn
  | succ f => rw [e, rowsG_step _ _ _ _ hn, hr]; rfl
theorem RowInv.not {win : Int} {L : List UInt8} {acc : List RecR} {rest : List UInt8} (h : RowInv win L acc rest) (hn : rest ≠ []) (hc : chkZ win acc.length (rTim rest) (rPay rest) ≠ 0) : rowsR win L = none := by
  obtain ⟨f, hf, e⟩ := h
  cases f with
  | zero => exact absurd (List.eq_nil_of_length_eq_zero (Nat.le_zero.1 hf)) hn
  | succ f =>
    rw [e, rowsG_step _ _ _ _ hn]
    cases rRest rest with
    | none => rfl
    | some l' => simp only; rw [if_neg hc]; rfl
theorem RowInv.step {win : Int} {L : List UInt8} {acc : List RecR} {rest l' : List UInt8} (h : RowInv win L acc rest) (hr : rRest rest = some l') (hc : chkZ win acc.length (rTim rest) (rPay rest) = 0) : RowInv win L (acc ++ [⟨win, acc.length, rTim rest, rPay rest⟩]) l' := by
  have hn : rest ≠ [] := by intro e; rw [e, rRest_nil] at hr; cases hr
  obtain ⟨f, hf, e⟩ := h
  cases f with
  | zero => exact absurd (List.eq_nil_of_length_eq_zero (Nat.le_zero.1 hf)) hn
  | succ f =>
    have := rRest_lt hr
    refine ⟨f, by omega, ?_⟩
    rw [e, rowsG_step _ _ _ _ hn, hr]
    simp only
    rw [if_pos hc, List.length_append, Option.map_map]
    congr 1
    funext r
    simp
theorem rowsG_length (win : Int) : ∀ (f i : Nat) (l : List UInt8) (r : List RecR), rowsG win f i l = some r → i ≤ 4000 → i + r.length ≤ 4000
  | _, i, [], r, h, hi => by rw [rowsG_nil] at h; cases h; simpa using hi
  | 0, _, _ :: _, r, h, _ => by cases h
  | f + 1, i, b :: t, r, h, hi => by
    rw [rowsG_step _ _ _ _ (by simp)] at h
    cases hr : rRest (b :: t) with
    | none => rw [hr] at h; cases h
    | some l' =>
      rw [hr] at h
      simp only at h
      split at h
      · rename_i hc
        obtain ⟨x, hx, rfl⟩ := Option.map_eq_some_iff.1 h
        have hk := (chk_ok hc).2.1.2
        have := rowsG_length win f (i + 1) l' x hx (by omega)
        rw [List.length_cons]; omega
      · cases h
theorem rowsR_length {win : Int} {L : List UInt8} {r : List RecR} (h : rowsR win L = some r) : r.length ≤ 1000000 := by
  have := rowsG_length win _ _ _ _ h (by decide)
  omega
theorem numPut (n : Nat) (r : List UInt8) (most : Nat) (hn : n ≤ most) (hm : most < 18446744073709551616) : numV (some (Oct.putL n ++ r)) most = n ∧ numS (some (Oct.putL n ++ r)) most = some r :=
  ⟨numV_put n (by omega) r most (by omega), numS_put n (by omega) r most (by omega)⟩
theorem u64N_of (z : Int) (h : 0 ≤ z) (h2 : z ≤ 1125899906842624) : u64N z = z.toNat := by have := u64N_nat z h (by omega); omega
/-- A record's row, and what stands behind it. -/
theorem row_read (r : RecR) (t : List UInt8) (h0 : 0 ≤ r.tim) (h1 : r.tim ≤ 1125899906842624) (hp : r.pay.size ≤ 2000) : (rTim (rowL r ++ t) : Int) = r.tim ∧ rPay (rowL r ++ t) = r.pay ∧ rRest (rowL r ++ t) = some t := by
  have e : rowL r ++ t = Oct.putL (u64N r.tim) ++ (txtL r.pay ++ t) := by rw [rowL, List.append_assoc]
  have hu := u64N_of r.tim h0 h1
  obtain ⟨n1, n2⟩ := numPut (u64N r.tim) (txtL r.pay ++ t) 1125899906842624 (by omega) (by decide)
  obtain ⟨t1, t2⟩ := OctI.text_parts r.pay t 2000 (by omega) (by omega)
  have m : rMid (rowL r ++ t) = some (txtL r.pay ++ t) := by unfold rMid; rw [e]; exact n2
  refine ⟨?_, ?_, ?_⟩
  · unfold rTim; rw [e]
    have := n1
    simp only [Int.cast_ofNat_Int] at this
    rw [this]; omega
  · unfold rPay; rw [m, t1]
  · unfold rRest; rw [m]; exact t2
/-- What Row wrote of records that may be is read again. -/
theorem rows_read (win : Int) : ∀ (l : List RecR) (i f : Nat), (rowsL l).length ≤ f → (∀ (j : Nat) (r : RecR), l[j]? = some r → r.win = win ∧ r.idx = ((i + j : Nat) : Int) ∧ chkZ r.win r.idx r.tim r.pay = 0) → rowsG win f i (rowsL l) = some l
  | [], i, f, _, _ => rowsG_nil _ _ _
  | r :: t, i, f, hf, h => by
    obtain ⟨e1, e2, hc⟩ := h 0 r rfl
    have hk := chk_ok hc
    obtain ⟨q1, q2, q3⟩ := row_read r (rowsL t) hk.2.2.1.1 hk.2.2.1.2 hk.2.2.2
    rw [rowsL_cons] at hf ⊢
    have hn : rowL r ++ rowsL t ≠ [] := by
      intro e
      have := congrArg List.length e
      rw [rowL] at this
      simp [Oct.putL] at this
    cases f with
    | zero => exact absurd (List.eq_nil_of_length_eq_zero (Nat.le_zero.1 hf)) hn
    | succ f =>
      rw [rowsG_step _ _ _ _ hn, q3]
      simp only
      have e3 : ((i : Nat) : Int) = r.idx := by rw [e2]; simp
      rw [q1, q2, e3, ← e1, if_pos hc, rows_read r.win t (i + 1) f (by
        have := rRest_lt q3
        omega) (fun j x hx => by
        obtain ⟨a, b, c⟩ := h (j + 1) x (by simpa using hx)
        exact ⟨a.trans e1.symm, by rw [b]; omega, c⟩)]
      rfl
/-- What Bytes wrote is read again. -/
theorem bytB_list (win idx tim : Int) (pay : ByteArray) : (bytB win idx tim pay).data.toList = Oct.putL (u64N win) ++ (Oct.putL (u64N idx) ++ rowL ⟨win, idx, tim, pay⟩) := by
  have := rowB_eq ⟨win, idx, tim, pay⟩
  simp only at this
  rw [bytB, this, app_data, app_data, Oct.putB_data, Oct.putB_data, List.append_assoc]
theorem bytes_read (win idx tim : Int) (pay : ByteArray) (h : chkZ win idx tim pay = 0) : readZ (bytB win idx tim pay).data.toList = 0 ∧ readR (bytB win idx tim pay).data.toList = ⟨win, idx, tim, pay⟩ := by
  obtain ⟨⟨a1, a2⟩, ⟨b1, b2⟩, ⟨c1, c2⟩, d⟩ := chk_ok h
  have h1 := u64N_of win a1 a2
  have h2 := u64N_of idx b1 (by omega)
  obtain ⟨n1, n2⟩ := numPut (u64N win) (Oct.putL (u64N idx) ++ rowL ⟨win, idx, tim, pay⟩) 1125899906842624 (by omega) (by decide)
  obtain ⟨m1, m2⟩ := numPut (u64N idx) (rowL ⟨win, idx, tim, pay⟩) 3999 (by omega) (by decide)
  obtain ⟨q1, q2, q3⟩ := row_read ⟨win, idx, tim, pay⟩ [] c1 c2 d
  rw [List.append_nil] at q1 q2 q3
  simp only [Int.cast_ofNat_Int] at n1 n2 m1 m2
  have s1 : recS1 (bytB win idx tim pay).data.toList = some (Oct.putL (u64N idx) ++ rowL ⟨win, idx, tim, pay⟩) := by unfold recS1; rw [bytB_list]; exact n2
  have s2 : recS2 (bytB win idx tim pay).data.toList = some (rowL ⟨win, idx, tim, pay⟩) := by unfold recS2; rw [s1]; exact m2
  have s3 : recS3 (bytB win idx tim pay).data.toList = rMid (rowL ⟨win, idx, tim, pay⟩) := by unfold recS3; rw [s2]; rfl
  have s4 : recS4 (bytB win idx tim pay).data.toList = some [] := by unfold recS4; rw [s3]; exact q3
  have hz : readZ (bytB win idx tim pay).data.toList = 0 := by unfold readZ; rw [s4]; rfl
  refine ⟨hz, ?_⟩
  unfold readR
  rw [if_pos hz, s3, s2, s1, m1]
  rw [show numV (some (bytB win idx tim pay).data.toList) 1125899906842624 = u64N win from by rw [bytB_list]; exact n1]
  have e1 : (u64N win : Int) = win := by omega
  have e2 : (u64N idx : Int) = idx := by omega
  rw [e1, e2]
  have e3 : (numV (some (rowL ⟨win, idx, tim, pay⟩)) 1125899906842624 : Int) = tim := q1
  have e4 : (⟨(textV (rMid (rowL ⟨win, idx, tim, pay⟩)) 2000).toArray⟩ : ByteArray) = pay := q2
  rw [e3, e4]
end Go.Proofs.YtbhalioajekfcaaDoor
