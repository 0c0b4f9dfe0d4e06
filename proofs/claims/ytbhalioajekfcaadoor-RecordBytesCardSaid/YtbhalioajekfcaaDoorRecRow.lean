/-
  Package record: rows of records in memory; Row; the document's own Row, Check, Same.
-/
import Derived.Test.YtbhalioajekfcaaDoorRecFn
import Derived.Test.YtbhalioajekfcaaDoorMOctL
import Derived.Laws.OwnMore
import Derived.Deep.AppendLies
import Derived.OwnWalk
import Derived.ArgAppend
namespace Go.Proofs.YtbhalioajekfcaaDoor
open Go.RowKit

theorem info_rec : (Tryd.prog.info? 23).map (fun i => (i.zero, i.size, i.bytes)) = some (some (.agg #[.int .i64 0, .int .i64 0, .int .i64 0, .string ⟨#[]⟩]), 4, 40) := by kernel_rfl
def recsC (l : List RecR) : List Value := l.flatMap recCs
theorem recsC_cons (r : RecR) (t : List RecR) : recsC (r :: t) = recCs r ++ recsC t := by simp [recsC]
theorem recsC_append (a b : List RecR) : recsC (a ++ b) = recsC a ++ recsC b := by simp [recsC]
theorem recsC_length : ∀ l : List RecR, (recsC l).length = l.length * 4
  | [] => rfl
  | r :: t => by rw [recsC_cons, List.length_append, recsC_length t, List.length_cons]; simp [recCs]; omega
theorem recsC_get : ∀ (l : List RecR) (j : Nat) (r : RecR), l[j]? = some r → (recsC l)[j * 4]? = some (.int .i64 r.win) ∧ (recsC l)[j * 4 + 1]? = some (.int .i64 r.idx) ∧ (recsC l)[j * 4 + 2]? = some (.int .i64 r.tim) ∧ (recsC l)[j * 4 + 3]? = some (.string r.pay)
  | [], j, r, h => by simp at h
  | x :: t, 0, r, h => by
    simp at h; subst h
    rw [recsC_cons]; exact ⟨rfl, rfl, rfl, rfl⟩
  | x :: t, j + 1, r, h => by
    have := recsC_get t j r (by simpa using h)
    have e : ∀ i, i < 4 → (recsC (x :: t))[(j + 1) * 4 + i]? = (recsC t)[j * 4 + i]? := fun i hi => by
      rw [recsC_cons, List.getElem?_append_right (by simp [recCs]; omega)]
      congr 1
      simp [recCs]; omega
    have e0 := e 0 (by decide)
    rw [Nat.add_zero, Nat.add_zero] at e0
    rw [e0, e 1 (by decide), e 2 (by decide), e 3 (by decide)]
    exact this
theorem recsC_one (l : List RecR) : ∀ u ∈ recsC l, u.oneCell' = true := by
  intro u hu
  obtain ⟨r, _, hr⟩ := List.mem_flatMap.1 hu
  simp [recCs] at hr
  rcases hr with rfl | rfl | rfl | rfl <;> rfl
/-- v is a slice that reads as the records l. -/
def RowR (w : World) (v : Value) (l : List RecR) : Prop :=
  ∃ a cap, v = .slice a l.length cap ∧ l.length ≤ 9223372036854775807 ∧ ∀ (j : Nat) (r : RecR), l[j]? = some r → ∃ b off, a = some ⟨b, off, none⟩ ∧ b < w.heap.size ∧
    w.cell? ⟨b, off + j * 4, none⟩ = some (.int .i64 r.win) ∧ w.cell? ⟨b, off + j * 4 + 1, none⟩ = some (.int .i64 r.idx) ∧ w.cell? ⟨b, off + j * 4 + 2, none⟩ = some (.int .i64 r.tim) ∧ w.cell? ⟨b, off + j * 4 + 3, none⟩ = some (.string r.pay)
theorem RowR.old {w w' : World} {v : Value} {l : List RecR} (h : RowR w v l) (k : Below w.heap.size w w') : RowR w' v l := by
  obtain ⟨a, cap, rfl, h1, h2⟩ := h
  refine ⟨a, cap, rfl, h1, fun j r hr => ?_⟩
  obtain ⟨b, off, e, hb, c0, c1, c2, c3⟩ := h2 j r hr
  have := k.size
  exact ⟨b, off, e, by omega, (k.cell (p := ⟨b, _, none⟩) hb).trans c0, (k.cell (p := ⟨b, _, none⟩) hb).trans c1, (k.cell (p := ⟨b, _, none⟩) hb).trans c2, (k.cell (p := ⟨b, _, none⟩) hb).trans c3⟩
theorem RowR.nil (w : World) : RowR w (.slice none 0 0) [] := ⟨none, 0, rfl, by simp, fun j r hr => by simp at hr⟩
theorem RowR.slice {w : World} {v : Value} {l : List RecR} (h : RowR w v l) : ∃ a cap, v = .slice a l.length cap := by
  obtain ⟨a, cap, e, _⟩ := h; exact ⟨a, cap, e⟩
theorem RowR.at {w : World} {a : Option Addr} {n cap : Nat} {l : List RecR} (h : RowR w (.slice a n cap) l) (j : Nat) (r : RecR) (hr : l[j]? = some r) : ∃ b off, a = some ⟨b, off, none⟩ ∧ b < w.heap.size ∧
    w.cell? ⟨b, off + j * 4, none⟩ = some (.int .i64 r.win) ∧ w.cell? ⟨b, off + j * 4 + 1, none⟩ = some (.int .i64 r.idx) ∧ w.cell? ⟨b, off + j * 4 + 2, none⟩ = some (.int .i64 r.tim) ∧ w.cell? ⟨b, off + j * 4 + 3, none⟩ = some (.string r.pay) := by
  obtain ⟨a', cap', e, h1, h2⟩ := h
  injection e with e1 e2 e3
  subst e1 e2 e3
  exact h2 j r hr
/-- A slice of the call's own. -/
def OwnR (B : Nat) (w : World) (v : Value) (l : List RecR) : Prop := w.ownsRow B 23 4 v l.length (recsC l)
theorem OwnR.nil (B : Nat) (w : World) : OwnR B w (.slice none 0 0) [] := World.ownsRow_nil _ _ _ _
theorem OwnR.row {B : Nat} {w : World} {v : Value} {l : List RecR} (h : OwnR B w v l) : RowR w v l := by
  have h' := h
  obtain ⟨_, h | ⟨g, cap, cur, rfl, hbg, hg, hnc, hcm, hcs, htake⟩⟩ := h
  · obtain ⟨rfl, h0⟩ := h
    have := List.eq_nil_of_length_eq_zero h0
    subst this
    exact RowR.nil _
  · refine ⟨_, cap, rfl, by unfold maxLen at hcm; omega, fun j r hr => ⟨g, 0, rfl, (Array.getElem?_eq_some_iff.1 hg).1, ?_⟩⟩
    have hc := World.ownsRow.cells h' (g := g) rfl
    obtain ⟨g0, g1, g2, g3⟩ := recsC_get l j r hr
    have c0 := hc _ _ g0
    have c1 := hc _ _ g1
    have c2 := hc _ _ g2
    have c3 := hc _ _ g3
    rw [Addr.add_mid] at c0 c1 c2 c3
    exact ⟨c0, by rw [Nat.add_assoc]; exact c1, by rw [Nat.add_assoc]; exact c2, by rw [Nat.add_assoc]; exact c3⟩
theorem OwnR.kept {B : Nat} {w w' : World} {v : Value} {l : List RecR} (h : OwnR B w v l) (k : Below w.heap.size w w') : OwnR B w' v l := by
  obtain ⟨h1, h2⟩ := h
  refine ⟨h1, ?_⟩
  rcases h2 with e | ⟨g, cap, cur, e1, e2, hg, r⟩
  · exact .inl e
  · exact .inr ⟨g, cap, cur, e1, e2, (k.block g (Array.getElem?_eq_some_iff.1 hg).1).trans hg, r⟩
theorem OwnR.only {B b : Nat} {w w' : World} {v : Value} {l : List RecR} (h : OwnR B w v l) (o : Only b w w') (hb : b < B) : OwnR B w' v l := row_only h o hb
theorem OwnR.lower {B B' : Nat} {w : World} {v : Value} {l : List RecR} (h : OwnR B w v l) (hB : B' ≤ B) : OwnR B' w v l := by
  obtain ⟨h1, h2⟩ := h
  refine ⟨h1, ?_⟩
  rcases h2 with e | ⟨g, cap, cur, e1, e2, r⟩
  · exact .inl e
  · exact .inr ⟨g, cap, cur, e1, by omega, r⟩
theorem rgrown_below {w w' : World} {row : Option Nat} (h : w.grownBy w' row) {B : Nat} (hB : B ≤ w.heap.size) (hr : ∀ g, row = some g → B ≤ g) : Below B w w' :=
  ⟨h.os, h.tape, h.output, h.size, fun k hk => h.block k (by omega) fun e => by have := hr k e.symm; omega⟩
/-- One more: a record that lies in a block of its own. -/
theorem rappend_own {B : Nat} {w : World} {v : Value} {l : List RecR} (ty : TypeId) (r : RecR) (h : OwnR B w v l) (hB : B ≤ w.heap.size) (hl : l.length ≤ 1000000) :
    ∃ v' w', (Builtin.append_ #[38, 38] ty #[v, .slice (some ⟨w.heap.size, 0, none⟩) 1 1]).run Tryd.prog (w.alloc (.cells #[.int .i64 r.win, .int .i64 r.idx, .int .i64 r.tim, .string r.pay] 23)) = .ok v' w' ∧ OwnR B w' v' (l ++ [r]) ∧ Below B w w' ∧ w.grownBy w' v.ownBlock := by
  obtain ⟨i0, hi, hz0, hz1, hz2⟩ := info_parts info_rec
  have b2 : Below w.heap.size w (w.alloc (.cells #[.int .i64 r.win, .int .i64 r.idx, .int .i64 r.tim, .string r.pay] 23)) := (Below.refl _ _).alloc (Nat.le_refl _) _
  have h2 := h.kept b2
  obtain ⟨v', w', h1, h2, h3, _⟩ := run_append_own_at (P := Tryd.prog) (w.alloc (.cells #[.int .i64 r.win, .int .i64 r.idx, .int .i64 r.tim, .string r.pay] 23)) B _ ty _ i0 _ 4 40 Tryd.underlying38 hi hz0 hz1 hz2 rfl (by decide) v l.length (recsC l) h2 ⟨w.heap.size, 0, none⟩ 1 1 (recCs r) rfl
    (fun j u hu => by
      rw [Addr.add_mid, Nat.zero_add, cell_of (heap_alloc_last w _)]
      simpa [recCs] using hu) (fun u hu => by simp [recCs] at hu; rcases hu with rfl | rfl | rfl | rfl <;> rfl) (by unfold maxLen; omega) (by omega) (by simp; omega)
  refine ⟨v', w', h1, ?_, ?_, ?_⟩
  · unfold OwnR
    rw [List.length_append, recsC_append]
    simpa [recsC] using h2
  · exact (b2.mono hB).trans (rgrown_below h3 (by simp; omega) fun g e => (World.ownsRow.lt h g e).1)
  · refine ⟨h3.os, h3.tape, h3.output, Nat.le_trans b2.size h3.size, fun k hk hne => (h3.block k (Nat.lt_of_lt_of_le hk b2.size) hne).trans (b2.block k hk)⟩
theorem index_rec (b off n cap k : Nat) (h : k < n) (w : World) : (Instr.indexAt 38 (.slice (some ⟨b, off, none⟩) n cap) (.int .i64 (k : Int))).run Tryd.prog w = .ok (.pointer (some ⟨b, off + k * 4, none⟩)) w := by
  go_simp
/-- The bytes of a record in a row. -/
def rowL (r : RecR) : List UInt8 := Oct.putL (u64N r.tim) ++ txtL r.pay
def rowsL (l : List RecR) : List UInt8 := l.flatMap rowL
theorem rowB_eq (r : RecR) : rowB r.tim r.pay = ⟨(rowL r).toArray⟩ := by
  rw [rowB, txt_eq, rowL, ← app_list]; rfl
theorem rowL_length (r : RecR) (h : r.pay.size ≤ 1000) : (rowL r).length ≤ 1018 := by
  have h1 := txtL_length r.pay h
  have h2 := putL_le (u64N r.tim) (u64N_lt _)
  rw [rowL, List.length_append]; omega
theorem rowsL_cons (r : RecR) (l : List RecR) : rowsL (r :: l) = rowL r ++ rowsL l := by simp [rowsL]
theorem rowsL_append (a b : List RecR) : rowsL (a ++ b) = rowsL a ++ rowsL b := by simp [rowsL]
theorem rowsL_take (l : List RecR) (k : Nat) (r : RecR) (h : l[k]? = some r) : rowsL (l.take (k + 1)) = rowsL (l.take k) ++ rowL r := by
  obtain ⟨hk, rfl⟩ := List.getElem?_eq_some_iff.1 h
  rw [List.take_succ_eq_append_getElem hk, rowsL_append]; simp [rowsL]
theorem rowsL_length (l : List RecR) (h : ∀ r ∈ l, r.pay.size ≤ 1000) : (rowsL l).length ≤ 1018 * l.length := by
  induction l with
  | nil => simp [rowsL]
  | cons r t ih =>
    have h1 := rowL_length r (h r (by simp))
    have h2 := ih fun x hx => h x (by simp [hx])
    rw [rowsL_cons, List.length_append, List.length_cons]; omega

set_option maxHeartbeats 3200000 in
set_option maxRecDepth 100000 in
theorem row_any (v : Value) (l : List RecR) (w : World) (h : RowR w v l) (hl : l.length ≤ 1000) (hsm : ∀ r ∈ l, r.pay.size ≤ 1000) :
    Calls Tryd.prog 13 #[v] w fun e w' => e = .returned (.string ⟨(rowsL l).toArray⟩) ∧ Below w.heap.size w w' := by
  obtain ⟨a, cap, rfl⟩ := h.slice
  obtain ⟨n, hn⟩ : ∃ n, n = l.length := ⟨_, rfl⟩
  rw [← hn] at h hl ⊢
  have HH := Lib.hid h
  have HN := Lib.hid hn
  have HSM := Lib.hid hsm
  have hI0 := Lib.IsBuilderF.of (Lib.fresh_isBuilder 54 5 w)
  have HI := Lib.hid hI0
  clear h hn hsm hI0
  obtain ⟨W1, hW1⟩ : ∃ u, u = w.alloc (.cells #[.pointer none, .slice none 0 0] 54) := ⟨_, rfl⟩
  go_enter Tryd.func13, Tryd.ntmps13
  go_wp2
  go_loopw [5, 8] (fun _ i wr => ∃ k : Nat, k ≤ n ∧ i = .int .i64 k ∧ Lib.IsBuilderF 54 5 w.heap.size w.heap.size (Lib.byteCells (rowsL (l.take k))) wr ∧ Below w.heap.size w wr)
    (fun _ i _ => n - (intOf i).toNat)
  case atStart => exact ⟨0, Nat.zero_le _, rfl, by simpa [rowsL, Lib.byteCells] using HI.out, (Below.refl _ _).alloc (Nat.le_refl _) _⟩
  case round =>
    obtain ⟨k, hk, rfl, hI, hbl⟩ := hrel
    clear HI hW1
    by_cases hlt : k < n
    · obtain ⟨r, hr⟩ : ∃ r, l[k]? = some r := ⟨l[k]'(by rw [← HN.out]; exact hlt), List.getElem?_eq_getElem _⟩
      obtain ⟨b, off, rfl, hb, c0, c1, c2, c3⟩ := (HH.out.old hbl).at k r hr
      have hpz : r.pay.size ≤ 1000 := HSM.out r (List.mem_of_getElem? hr)
      have hst := rowsL_take l k r hr
      have hrl := rowL_length r hpz
      have htl := rowsL_length (l.take k) (fun t ht => HSM.out t (List.mem_of_mem_take ht))
      rw [List.length_take, Nat.min_eq_left (by rw [← HN.out]; exact hk)] at htl
      have hrb := rowB_eq r
      obtain ⟨win, idx, tim, pay⟩ := r
      have hin := fun u => inRow_any win idx tim pay u (by have : pay.size ≤ 1000 := hpz; omega)
      simp only at c0 c1 c2 c3 hrb
      rw [hrb] at hin
      have hidx := fun u => index_rec b off n cap k hlt u
      have HST := Lib.hid hst
      obtain ⟨X, hX⟩ : ∃ X : ByteArray, X = ⟨(rowL ⟨win, idx, tim, pay⟩).toArray⟩ := ⟨_, rfl⟩
      have hXs : X.size ≤ 1018 := by rw [hX, ByteArray.size, List.size_toArray]; exact hrl
      have HX := Lib.hid hX
      have HXC : Hid (Lib.strCells X = Lib.byteCells (rowL ⟨win, idx, tim, pay⟩)) := Lib.hid (by rw [hX]; rfl)
      rw [← hX] at hin
      obtain ⟨W5, hW5⟩ : ∃ u, u = wr.alloc (.cells #[.int .i64 win, .int .i64 idx, .int .i64 tim, .string pay] 23) := ⟨_, rfl⟩
      have b5 : Below wr.heap.size wr W5 := by rw [hW5]; exact below_box' _ _
      have hr5 : RecAt wr.heap.size win idx tim pay W5 := by rw [hW5]; exact RecAt.alloc _ _ _ _ _
      have hI5 := bld_old hI b5
      have HR5 := Lib.hid hr5
      have HI5 := Lib.hid hI5
      have HW5 := Lib.hid hW5
      have HBL := Lib.hid hbl
      clear hr hst hrl hrb hX hW5 hpz hI hr5 hI5 hbl
      go_upto_region 5 with fail
      rw [← HW5.out]
      have d0 := HR5.out.c0
      have d1 := HR5.out.c1
      have d2 := HR5.out.c2
      have d3 := HR5.out.c3
      clear c0 c1 c2 c3 hidx
      go_wp2_with (first
        | (go_at_call 17; ((with_reducible refine (hin _).mono ?_); rintro e w6 ⟨rfl, b6⟩))
        | (go_at_call 27; refine (writeString_any w.heap.size w.heap.size _ _ _ (bld_old HI5.out b6) (by rw [Lib.byteCells_length]; omega) (Nat.le_trans HBL.out.size (Nat.le_trans b5.size b6.size))).mono ?_; rintro e w7 ⟨rfl, h7, b7, _⟩))
      go_roundw
      case rel =>
        refine ⟨k + 1, by omega, by go_num, ?_, (below_step (below_step HBL.out (Nat.le_refl _) b5) (Nat.le_refl _) b6).trans b7⟩
        rw [HST.out, Lib.byteCells_append, ← HXC.out]
        exact Or.inr h7
      case measure => simp [intOf]; omega
    · have e : l.take k = l := List.take_of_length_le (by rw [← HN.out]; omega)
      rw [e] at hI
      clear e
      go_wp2_with (go_at_call 28; refine (builderString_any w.heap.size w.heap.size _ _ hI hbl.size).mono ?_; rintro e w5 ⟨rfl, _, b5, _⟩)
      go_ret
      exact ⟨rfl, hbl.trans b5⟩

end Go.Proofs.YtbhalioajekfcaaDoor
