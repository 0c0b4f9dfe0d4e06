/-
  Several texts in one (OctLists, OctInv).
-/
import Derived.Test.YtollcdalokhjaaaDoorMOct
import Derived.Test.YtollcdalokhjaaaDoorMGen
import Derived.Lib.OthersKept
import Derived.WalkMore
import Derived.Deep.LoopGhost
/-! ## Lists of texts: what List puts, and what List of a scanner reads; the document's own. -/
namespace Go.Proofs.YtollcdalokhjaaaDoor
open Go.RowKit

theorem info_strL : (Tryd.prog.info? 9).map (fun i => (i.zero, i.size, i.bytes)) = some (some (.string ⟨#[]⟩), 1, 16) := by kernel_rfl
theorem StrRow.of_own {w : World} {base n : Nat} {v : Value} {ts : List ByteArray} (h : w.ownsRow base 9 1 v n (ts.map Value.string)) (hn : ts.length ≤ 9223372036854775807) : StrRow w v ts := by
  have h1 := h.1
  simp at h1
  obtain rfl := h1
  rcases h.2 with ⟨rfl, h0⟩ | ⟨g, cap, cur, rfl, hg, hh, r⟩
  · have : ts = [] := List.eq_nil_of_length_eq_zero h0
    subst this
    exact StrRow.nil w
  · refine ⟨_, cap, rfl, hn, fun _ => ⟨g, 0, rfl, (Array.getElem?_eq_some_iff.1 hh).1, fun j hj => ?_⟩⟩
    have := h.cells rfl j (.string (ts.getD j ByteArray.empty)) (by simp [hj])
    rw [← this, Nat.zero_add]
    congr 1
    unfold Addr.add
    split <;> simp_all

theorem bld_old {T e : TypeId} {B b : Nat} {bs : List Value} {w w' : World} (h : Lib.IsBuilderF T e B b bs w) (k : Below w.heap.size w w') : Lib.IsBuilderF T e B b bs w' := by
  have go : ∀ p, Lib.BuilderAtF T e B b p bs w → Lib.BuilderAtF T e B b p bs w' := by
    rintro p ⟨hB, v, hb, ⟨h1, h2⟩, hne⟩
    refine ⟨hB, v, (k.block b (Array.getElem?_eq_some_iff.1 hb).1).trans hb, ⟨h1, ?_⟩, hne⟩
    rcases h2 with h2 | ⟨g, cap, cur, fz, hv, hg, hh, r⟩
    · exact Or.inl h2
    · exact Or.inr ⟨g, cap, cur, fz, hv, hg, (k.block g (Array.getElem?_eq_some_iff.1 hh).1).trans hh, r⟩
  exact h.elim (fun x => .inl (go _ x)) (fun x => .inr (go _ x))

/-- k texts more, behind those that were read: all of them, or none. -/
def takeTexts : Nat → List (List UInt8) → Option (List UInt8) → List (List UInt8) × Option (List UInt8)
  | 0, acc, st => (acc, st)
  | k + 1, acc, st => match textS st 16777216 with
    | none => ([], none)
    | some l => takeTexts k (acc ++ [textV st 16777216]) (some l)
/-- What List tells, and what it leaves. -/
def listR (st : Option (List UInt8)) (most : Int) : List (List UInt8) × Option (List UInt8) := takeTexts (numV st most) [] (numS st most)

def strs (l : List (List UInt8)) : List ByteArray := l.map fun t => ⟨t.toArray⟩

theorem Only.cellA {b : Nat} {w w' : World} (h : Only b w w') {p : Addr} (hp : p.block < w.heap.size) (hb : p.block ≠ b) : w'.cell? p = w.cell? p := World.cell?_of_block (w := w) (h.block p.block hp hb)
theorem Only.below_right {b B : Nat} {u w w' : World} (h : Only b u w) (k : Below B w w') (hB : u.heap.size ≤ B) : Only b u w' :=
  ⟨k.os.trans h.os, k.tape.trans h.tape, k.output.trans h.output, Nat.le_trans h.size k.size, fun i hi hb => (k.block i (by omega)).trans (h.block i hi hb)⟩
theorem Only.alloc {b : Nat} {u w : World} (h : Only b u w) (o : Obj) : Only b u (w.alloc o) :=
  h.trans ⟨rfl, rfl, rfl, by simp, fun k hk _ => Below.heap_alloc _ _ _ hk⟩
theorem Only.grown {b : Nat} {u w w' : World} {row : Option Nat} (h : Only b u w) (g : w.grownBy w' row) (hr : ∀ k, row = some k → u.heap.size ≤ k) : Only b u w' :=
  ⟨g.os.trans h.os, g.tape.trans h.tape, g.output.trans h.output, Nat.le_trans h.size g.size, fun k hk hb => (g.block k (Nat.lt_of_lt_of_le hk h.size) (fun e => by have := hr k e.symm; omega)).trans (h.block k hk hb)⟩

theorem longS_lt (l l' : List UInt8) (h : longS (some l) = some l') : l'.length < l.length := by
  unfold longS at h
  cases hn : Oct.num? l with
  | none => simp [hn] at h
  | some x =>
    simp [hn] at h
    subst h
    cases l with
    | nil => cases hn
    | cons b r =>
      unfold Oct.num? at hn
      simp only at hn
      split at hn
      · cases hn
      · simp only [Option.some.injEq] at hn
        subst hn
        simp only [List.length_drop, List.length_cons]
        omega

theorem numS_lt (l l' : List UInt8) (most : Int) (h : numS (some l) most = some l') : l'.length < l.length := by
  unfold numS at h
  split at h
  · cases h
  · exact longS_lt l l' h

theorem textS_lt (l l' : List UInt8) (most : Int) (h : textS (some l) most = some l') : l'.length < l.length := by
  unfold textS at h
  cases hn : numS (some l) most with
  | none => rw [hn] at h; cases h
  | some m =>
    rw [hn, Option.bind_some] at h
    split at h
    · cases h
    · simp only [Option.some.injEq] at h
      subst h
      have := numS_lt l m most hn
      rw [List.length_drop]
      omega

theorem row_only {base b : Nat} {e : TypeId} {size : Nat} {v : Value} {n : Nat} {xs : List Value} {w w' : World} (h : w.ownsRow base e size v n xs) (o : Only b w w') (hb : b < base) : w'.ownsRow base e size v n xs := by
  obtain ⟨h1, h2⟩ := h
  refine ⟨h1, ?_⟩
  rcases h2 with h2 | ⟨g, cap, cur, hv, hg, hh, r⟩
  · exact Or.inl h2
  · exact Or.inr ⟨g, cap, cur, hv, hg, (o.block g (Array.getElem?_eq_some_iff.1 hh).1 (by omega)).trans hh, r⟩

/-- v is a slice that reads as the texts ts; its row lies from lo on. -/
def FRow (lo : Nat) (w : World) (v : Value) (ts : List ByteArray) : Prop :=
  ∃ a cap, v = .slice a ts.length cap ∧ ts.length ≤ 9223372036854775807 ∧ (ts ≠ [] → ∃ b off, a = some ⟨b, off, none⟩ ∧ lo ≤ b ∧ b < w.heap.size ∧ ∀ j, j < ts.length → w.cell? ⟨b, off + j, none⟩ = some (.string (ts.getD j ByteArray.empty)))
theorem FRow.row {lo : Nat} {w : World} {v : Value} {ts : List ByteArray} (h : FRow lo w v ts) : StrRow w v ts := by
  obtain ⟨a, cap, hv, hl, hc⟩ := h
  refine ⟨a, cap, hv, hl, fun hn => ?_⟩
  obtain ⟨b, off, ha, _, hb, hj⟩ := hc hn
  exact ⟨b, off, ha, hb, hj⟩
theorem FRow.nil (lo : Nat) (w : World) : FRow lo w (.slice none 0 0) [] := ⟨none, 0, rfl, by decide, fun h => absurd rfl h⟩
theorem FRow.only {lo y : Nat} {w w' : World} {v : Value} {ts : List ByteArray} (h : FRow lo w v ts) (o : Only y w w') (hy : y < lo) : FRow lo w' v ts := by
  obtain ⟨a, cap, hv, hl, hc⟩ := h
  refine ⟨a, cap, hv, hl, fun hn => ?_⟩
  obtain ⟨b, off, ha, hlo, hb, hj⟩ := hc hn
  exact ⟨b, off, ha, hlo, Nat.lt_of_lt_of_le hb o.size, fun j h => (o.cellA (p := ⟨b, off + j, none⟩) hb (by show b ≠ y; omega)).trans (hj j h)⟩
theorem FRow.of_own {w : World} {base n : Nat} {v : Value} {ts : List ByteArray} (h : w.ownsRow base 9 1 v n (ts.map Value.string)) (hn : ts.length ≤ 9223372036854775807) : FRow base w v ts := by
  have h1 := h.1
  simp at h1
  obtain rfl := h1
  rcases h.2 with ⟨rfl, h0⟩ | ⟨g, cap, cur, rfl, hg, hh, r⟩
  · have : ts = [] := List.eq_nil_of_length_eq_zero h0
    subst this
    exact FRow.nil _ w
  · refine ⟨_, cap, rfl, hn, fun _ => ⟨g, 0, rfl, hg, (Array.getElem?_eq_some_iff.1 hh).1, fun j hj => ?_⟩⟩
    have := h.cells rfl j (.string (ts.getD j ByteArray.empty)) (by simp [hj])
    rw [← this, Nat.zero_add]
    congr 1
    unfold Addr.add
    split <;> simp_all
theorem FRow.mono {lo lo' : Nat} {w : World} {v : Value} {ts : List ByteArray} (h : FRow lo w v ts) (hl : lo' ≤ lo) : FRow lo' w v ts := by
  obtain ⟨a, cap, hv, hln, hc⟩ := h
  refine ⟨a, cap, hv, hln, fun hn => ?_⟩
  obtain ⟨b, off, ha, hlo, r⟩ := hc hn
  exact ⟨b, off, ha, Nat.le_trans hl hlo, r⟩

theorem take_step (k : Nat) (acc : List (List UInt8)) (st : Option (List UInt8)) (l : List UInt8) (h : textS st 16777216 = some l) : takeTexts (k + 1) acc st = takeTexts k (acc ++ [textV st 16777216]) (some l) := by
  simp only [takeTexts, h]
theorem take_stop (k : Nat) (acc : List (List UInt8)) (st : Option (List UInt8)) (h : textS st 16777216 = none) : takeTexts (k + 1) acc st = ([], none) := by
  simp only [takeTexts, h]

/-- How far the reading has come: some texts are there, or it was in vain. -/
def Way (n k : Nat) (acc : List (List UInt8)) (st : Option (List UInt8)) (L : Nat) (R : List (List UInt8) × Option (List UInt8)) : Prop :=
  (∃ l, st = some l ∧ acc.length + l.length ≤ L ∧ takeTexts (n - k) acc (some l) = R) ∨ (st = none ∧ R = ([], none))

theorem way_start (n : Nat) (st : Option (List UInt8)) (h : st = none → n = 0) : Way n 0 [] st (st.getD []).length (takeTexts n [] st) := by
  cases st with
  | none => right; rw [h rfl]; exact ⟨rfl, rfl⟩
  | some l => left; exact ⟨l, rfl, by simp, rfl⟩

theorem way_step {n k : Nat} {acc : List (List UInt8)} {l : List UInt8} {L : Nat} {R : List (List UInt8) × Option (List UInt8)} (hk : k < n) (h : Way n k acc (some l) L R) :
    Way n (k + 1) (acc ++ [textV (some l) 16777216]) (textS (some l) 16777216) L R := by
  rcases h with ⟨l', e, hl, ht⟩ | ⟨e, _⟩
  · simp only [Option.some.injEq] at e
    subst e
    rw [show n - k = (n - (k + 1)) + 1 by omega] at ht
    cases hs : textS (some l) 16777216 with
    | none => right; rw [take_stop _ _ _ hs] at ht; exact ⟨rfl, ht.symm⟩
    | some l2 =>
      left
      have := textS_lt l l2 _ hs
      refine ⟨l2, rfl, by simp; omega, ?_⟩
      rw [take_step _ _ _ _ hs] at ht
      exact ht
  · cases e

end Go.Proofs.YtollcdalokhjaaaDoor
/-! ## Plain mathematics: what is read as numbers, texts and lists is what was put; and the other way round. -/
namespace Go.Proofs.YtollcdalokhjaaaDoor.OctI
open Go.RowKit

theorem be_val : ∀ (k : Nat) (l : List UInt8), l.length = k → Oct.be (Oct.val l) k = l
  | 0, l, h => by rw [List.eq_nil_of_length_eq_zero h]; rfl
  | k + 1, l, h => by
    apply List.ext_getElem?
    intro i
    by_cases hi : i < k + 1
    · rw [Oct.be_get _ _ _ hi]
      have hi' : i < l.length := by omega
      rw [List.getElem?_eq_getElem hi']
      congr 1
      -- the byte i of the number
      have e : l = l.take i ++ l[i] :: l.drop (i + 1) := by rw [← List.drop_eq_getElem_cons hi', List.take_append_drop]
      have hv : Oct.val l = Oct.val (l.take i) * 256 ^ (k + 1 - i) + (l[i].toNat * 256 ^ (k - i) + Oct.val (l.drop (i + 1))) := by
        conv => lhs; rw [e]
        unfold Oct.val
        rw [List.foldl_append, Oct.val_cons_acc, Oct.val_cons]
        congr 2
        · rw [List.length_cons, List.length_drop, show l.length - (i + 1) + 1 = k + 1 - i by omega]
        · rw [List.length_drop, show l.length - (i + 1) = k - i by omega]
      have hlt : Oct.val (l.drop (i + 1)) < 256 ^ (k - i) := Oct.val_lt (k - i) _ (by rw [List.length_drop]; omega)
      rw [hv, show k + 1 - 1 - i = k - i by omega]
      have hp : 0 < 256 ^ (k - i) := Nat.pow_pos (by decide)
      have h1 : (Oct.val (l.take i) * 256 ^ (k + 1 - i) + (l[i].toNat * 256 ^ (k - i) + Oct.val (l.drop (i + 1)))) / 256 ^ (k - i) = Oct.val (l.take i) * 256 + l[i].toNat := by
        rw [show k + 1 - i = (k - i) + 1 by omega, Nat.pow_succ]
        rw [show Oct.val (l.take i) * (256 ^ (k - i) * 256) + (l[i].toNat * 256 ^ (k - i) + Oct.val (l.drop (i + 1))) = 256 ^ (k - i) * (Oct.val (l.take i) * 256 + l[i].toNat) + Oct.val (l.drop (i + 1)) by
          rw [Nat.mul_add, Nat.mul_comm (256 ^ (k - i)) l[i].toNat, Nat.add_assoc]
          congr 1
          rw [Nat.mul_left_comm, Nat.mul_comm (256 ^ (k - i)) (Oct.val (l.take i) * 256), Nat.mul_assoc, Nat.mul_comm 256]]
        rw [Nat.mul_add_div hp, Nat.div_eq_of_lt hlt, Nat.add_zero]
      rw [h1]
      apply UInt8.toNat.inj
      rw [UInt8.toNat_ofNat']
      have := l[i].toNat_lt
      omega
    · rw [List.getElem?_eq_none (by rw [Oct.be_length]; omega), List.getElem?_eq_none (by omega)]
theorem need_val (l : List UInt8) (k : Nat) (hl : l.length = k) (h8 : k ≤ 8) (hh : 0 < k → l.headD 0 ≠ 0) : Oct.need (Oct.val l) = k := by
  have hlt := Oct.val_lt k l hl
  have h64 : Oct.val l < 18446744073709551616 := Nat.lt_of_lt_of_le hlt (Nat.le_trans (Nat.pow_le_pow_right (by decide) h8) (by decide))
  by_cases hk : k = 0
  · subst hk
    rw [List.eq_nil_of_length_eq_zero hl]
    exact Oct.need_zero
  · have hne := hh (by omega)
    cases l with
    | nil => simp at hl; omega
    | cons b r =>
      have hb : b ≠ 0 := hne
      have hb1 : 1 ≤ b.toNat := by
        rcases Nat.eq_zero_or_pos b.toNat with e | e
        · exact absurd (UInt8.toNat.inj (by rw [e]; rfl)) hb
        · exact e
      rw [List.length_cons] at hl
      have hge : 256 ^ (k - 1) ≤ Oct.val (b :: r) := by
        rw [Oct.val_cons, show r.length = k - 1 by omega]
        calc 256 ^ (k - 1) = 1 * 256 ^ (k - 1) := (Nat.one_mul _).symm
          _ ≤ b.toNat * 256 ^ (k - 1) := Nat.mul_le_mul_right _ hb1
          _ ≤ _ := Nat.le_add_right _ _
      generalize Oct.val (b :: r) = n at *
      have hp : 0 < 256 ^ (k - 1) := Nat.pow_pos (by decide)
      have h0 : n ≠ 0 := by omega
      have l1 := Oct.lt_need n h64
      have l2 := Oct.le_need n h64 h0
      have l3 := Oct.need_pos n h64 h0
      rcases Nat.lt_trichotomy (Oct.need n) k with h | h | h
      · have := Nat.pow_le_pow_right (n := 256) (by decide) (show Oct.need n ≤ k - 1 by omega)
        omega
      · exact h
      · have := Nat.pow_le_pow_right (n := 256) (by decide) (show k ≤ Oct.need n - 1 by omega)
        omega
theorem num_inv {l : List UInt8} {n k : Nat} (h : Oct.num? l = some (n, k)) : l = Oct.putL n ++ l.drop k := by
  cases l with
  | nil => cases h
  | cons b r =>
    unfold Oct.num? at h
    simp only at h
    split at h
    · cases h
    · rename_i hc
      simp only [not_or, Nat.not_lt, not_and] at hc
      injection h with h
      injection h with h1 h2
      subst h1 h2
      have ht : (r.take b.toNat).length = b.toNat := by rw [List.length_take]; omega
      have hn := need_val (r.take b.toNat) b.toNat ht hc.1 (fun hp => by
        have := hc.2.2 hp
        cases r with
        | nil => simp at hc; omega
        | cons x r =>
          rw [show b.toNat = (b.toNat - 1) + 1 by omega, List.take_succ_cons]
          exact this)
      unfold Oct.putL
      rw [hn, be_val _ _ ht, Nat.add_comm, List.drop_succ_cons, List.cons_append, List.take_append_drop]
      congr 1
      exact (UInt8.ofNat_toNat).symm
theorem numS_inv {l r : List UInt8} {most : Nat} (h : numS (some l) most = some r) : l = Oct.putL (numV (some l) most) ++ r ∧ numV (some l) most ≤ most := by
  unfold numS at h
  unfold numV
  split at h
  · cases h
  · rename_i hc
    rw [if_neg hc]
    simp only [not_or, Int.not_lt] at hc
    refine ⟨?_, by omega⟩
    unfold longS at h
    unfold longV
    cases hn : Oct.num? l with
    | none => simp [hn] at h
    | some x =>
      simp [hn] at h
      have := num_inv (n := x.1) (k := x.2) hn
      simp [hn]
      rw [h] at this
      exact this
theorem text_parts (t : ByteArray) (r : List UInt8) (most : Int) (h : (t.size : Int) ≤ most) (hs : t.size < 18446744073709551616) :
    textV (some (txtL t ++ r)) most = t.data.toList ∧ textS (some (txtL t ++ r)) most = some r := by
  have hm : ¬ (most < 0 ∨ most < t.size) := by omega
  have e : txtL t ++ r = Oct.putL t.size ++ (t.data.toList ++ r) := by rw [txtL, List.append_assoc]
  have e1 := numV_put t.size hs (t.data.toList ++ r) most hm
  have e2 := numS_put t.size hs (t.data.toList ++ r) most hm
  have hl : t.data.toList.length = t.size := (Lib.size_eq t).symm
  have hn : ¬ (t.data.toList ++ r).length < t.size := by rw [List.length_append, hl]; omega
  unfold textV textS
  rw [e, e1, e2, Option.getD_some, Option.bind_some, if_neg hn, if_neg hn, ← hl]
  simp

theorem take_put (us : List ByteArray) (r : List UInt8) (hus : ∀ t ∈ us, t.size ≤ 1000) : ∀ acc, takeTexts us.length acc (some (txtsL us ++ r)) = (acc ++ us.map (·.data.toList), some r) := by
  induction us with
  | nil => intro acc; simp [takeTexts, txtsL]
  | cons t us ih =>
    intro acc
    have h1 := hus t (by simp)
    have e : txtsL (t :: us) ++ r = txtL t ++ (txtsL us ++ r) := by simp [txtsL]
    obtain ⟨e1, e2⟩ := text_parts t (txtsL us ++ r) 16777216 (by omega) (by omega)
    rw [e, List.length_cons, take_step _ _ _ _ e2, e1, ih (fun x hx => hus x (by simp [hx]))]
    simp

theorem list_parts (us : List ByteArray) (r : List UInt8) (most : Int) (hm : (us.length : Int) ≤ most) (hl : us.length ≤ 1000) (hus : ∀ t ∈ us, t.size ≤ 1000) :
    listR (some (listL us ++ r)) most = (us.map (·.data.toList), some r) := by
  have e : listL us ++ r = Oct.putL us.length ++ (txtsL us ++ r) := by rw [listL, List.append_assoc]
  have hm' : ¬ (most < 0 ∨ most < us.length) := by omega
  unfold listR
  rw [e, numV_put us.length (by omega) _ most hm', numS_put us.length (by omega) _ most hm', take_put us r hus []]
  simp

theorem strs_data (us : List ByteArray) : strs (us.map (·.data.toList)) = us := by
  simp only [strs, List.map_map]
  conv => rhs; rw [← List.map_id us]
  exact List.map_congr_left fun t _ => Lib.mk_data t


/-- A text that was read is what was put. -/
theorem text_inv {l r : List UInt8} {most : Nat} (h : textS (some l) most = some r) : l = txtL ⟨(textV (some l) most).toArray⟩ ++ r := by
  unfold textS at h
  cases hn : numS (some l) most with
  | none => rw [hn] at h; cases h
  | some q =>
    rw [hn, Option.bind_some] at h
    split at h
    · cases h
    · rename_i hc
      injection h with h
      obtain ⟨e1, -⟩ := numS_inv hn
      have hv : textV (some l) most = q.take (numV (some l) most) := by unfold textV; rw [hn, Option.getD_some, if_neg hc]
      have hlen : (q.take (numV (some l) most)).length = numV (some l) most := by rw [List.length_take]; omega
      rw [hv, txtL, ByteArray.size, List.size_toArray, hlen]
      conv => lhs; rw [e1]
      rw [List.append_assoc, ← h]
      simp only [List.take_append_drop]
theorem take_len : ∀ (k : Nat) (acc : List (List UInt8)) (st : Option (List UInt8)) (L : List (List UInt8)) (r : List UInt8), takeTexts k acc st = (L, some r) → L.length = acc.length + k
  | 0, acc, st, L, r, h => by
    simp only [takeTexts, Prod.mk.injEq] at h
    rw [← h.1]; rfl
  | k + 1, acc, st, L, r, h => by
    cases hs : textS st 16777216 with
    | none => rw [take_stop _ _ _ hs] at h; cases h
    | some l =>
      rw [take_step _ _ _ _ hs] at h
      have := take_len k _ _ _ _ h
      rw [this, List.length_append, List.length_singleton]
      omega
/-- Texts that were read are what was put. -/
theorem take_inv : ∀ (k : Nat) (acc : List (List UInt8)) (l : List UInt8) (L : List (List UInt8)) (r : List UInt8), takeTexts k acc (some l) = (L, some r) → ∃ M, L = acc ++ M ∧ l = txtsL (strs M) ++ r
  | 0, acc, l, L, r, h => by
    simp only [takeTexts, Prod.mk.injEq, Option.some.injEq] at h
    refine ⟨[], by rw [← h.1, List.append_nil], ?_⟩
    rw [h.2]
    rfl
  | k + 1, acc, l, L, r, h => by
    cases hs : textS (some l) 16777216 with
    | none => rw [take_stop _ _ _ hs] at h; cases h
    | some l' =>
      rw [take_step _ _ _ _ hs] at h
      obtain ⟨M, e1, e2⟩ := take_inv k _ _ _ _ h
      refine ⟨textV (some l) 16777216 :: M, by rw [e1, List.append_assoc]; rfl, ?_⟩
      have := text_inv (most := 16777216) hs
      simp only [Int.cast_ofNat_Int] at this
      rw [show txtsL (strs (textV (some l) 16777216 :: M)) = txtL ⟨(textV (some l) 16777216).toArray⟩ ++ txtsL (strs M) by simp [strs, txtsL], List.append_assoc, ← e2]
      exact this
/-- A list that was read is what was put. -/
theorem list_inv {l r : List UInt8} {most : Nat} {L : List (List UInt8)} (h : listR (some l) most = (L, some r)) : l = listL (strs L) ++ r ∧ L.length ≤ most := by
  unfold listR at h
  cases hn : numS (some l) most with
  | none =>
    rw [hn, num_none_zero _ _ hn] at h
    cases h
  | some q =>
    rw [hn] at h
    obtain ⟨e1, e2⟩ := numS_inv hn
    obtain ⟨M, e3, e4⟩ := take_inv _ _ _ _ _ h
    have e5 := take_len _ _ _ _ _ h
    rw [List.nil_append] at e3
    subst e3
    have e6 : (strs L).length = numV (some l) most := by simpa [strs] using e5
    refine ⟨?_, by simp at e5; omega⟩
    conv => lhs; rw [e1, e4]
    rw [listL, e6, List.append_assoc]
/-- Another bound, that does not cut: the same list. -/
theorem list_most (st : Option (List UInt8)) (a b : Nat) (hab : a ≤ b) (L : List (List UInt8)) (r : List UInt8) (hL : L.length = a) : listR st b = (L, some r) ↔ listR st a = (L, some r) := by
  have key : longV st ≤ a → listR st b = listR st a := fun h => by
    unfold listR numV numS
    rw [if_neg (by omega), if_neg (by omega), if_neg (by omega), if_neg (by omega)]
  constructor
  · intro h
    have h' := h
    by_cases hc : longV st ≤ a
    · rw [← key hc]; exact h
    · exfalso
      unfold listR at h'
      by_cases hb : longV st ≤ b
      · have e1 : numV st b = longV st := by unfold numV; rw [if_neg (by omega)]
        have := take_len _ _ _ _ _ h'
        rw [e1] at this
        simp at this
        omega
      · have e1 : numV st b = 0 := by unfold numV; rw [if_pos (by omega)]
        have e2 : numS st b = none := by unfold numS; rw [if_pos (by omega)]
        rw [e1, e2] at h'
        cases h'
  · intro h
    have h' := h
    by_cases hc : longV st ≤ a
    · rw [key hc]; exact h
    · exfalso
      unfold listR at h'
      have e1 : numV st a = 0 := by unfold numV; rw [if_pos (by omega)]
      have e2 : numS st a = none := by unfold numS; rw [if_pos (by omega)]
      rw [e1, e2] at h'
      cases h'
end Go.Proofs.YtollcdalokhjaaaDoor.OctI
