/-
  Rows of texts, twins as values.
-/
import Derived.Test.YtdcebdleneieeaaDoorTwinPure
import Derived.Test.YtdcebdleneieeaaDoorMPathA
import Derived.Test.YtdcebdleneieeaaDoorMGen
namespace Go.Proofs.YtdcebdleneieeaaDoor
open Go.RowKit

/-- A text as the program has it. -/
def tS (t : List UInt8) : ByteArray := ⟨t.toArray⟩
def tV (t : List UInt8) : Value := .string (tS t)
theorem tS_list (t : List UInt8) : (tS t).data.toList = t := by simp [tS]
theorem tS_size (t : List UInt8) : (tS t).size = t.length := by simp [tS, ByteArray.size]
theorem tS_of (S : ByteArray) : tS S.data.toList = S := by cases S; simp [tS]
theorem tS_inj {s t : List UInt8} (h : tS s = tS t) : s = t := by rw [← tS_list s, h, tS_list]
abbrev Ts := List (List UInt8)
/-- v is a slice that reads as the texts L. -/
def Texts (w : World) (v : Value) (L : Ts) : Prop :=
  ∃ a cap, v = .slice a L.length cap ∧ L.length ≤ 9223372036854775807 ∧ (0 < L.length → ∃ b off, a = some ⟨b, off, none⟩ ∧ b < w.heap.size ∧ ∀ (j : Nat) (x : List UInt8), L[j]? = some x → w.cell? ⟨b, off + j, none⟩ = some (tV x))
theorem Texts.old {w w' : World} {v : Value} {L : Ts} (h : Texts w v L) (k : Below w.heap.size w w') : Texts w' v L := by
  obtain ⟨a, cap, rfl, h1, h3⟩ := h
  refine ⟨a, cap, rfl, h1, fun hn => ?_⟩
  obtain ⟨b, off, rfl, hb, hj⟩ := h3 hn
  exact ⟨b, off, rfl, Nat.lt_of_lt_of_le hb k.size, fun j x hx => (k.cell (p := ⟨b, off + j, none⟩) hb).trans (hj j x hx)⟩
theorem Texts.nil (w : World) : Texts w (.slice none 0 0) [] := ⟨none, 0, rfl, by decide, fun h => absurd h (by simp)⟩
theorem Texts.slice {w : World} {v : Value} {L : Ts} (h : Texts w v L) : ∃ a cap, v = .slice a L.length cap := by
  obtain ⟨a, cap, rfl, _⟩ := h
  exact ⟨a, cap, rfl⟩
theorem Texts.at {w : World} {a : Option Addr} {n cap : Nat} {L : Ts} (h : Texts w (.slice a n cap) L) {k : Nat} {x : List UInt8} (hx : L[k]? = some x) : ∃ b off, a = some ⟨b, off, none⟩ ∧ b < w.heap.size ∧ n = L.length ∧ w.cell? ⟨b, off + k, none⟩ = some (tV x) := by
  obtain ⟨a', cap', e, h1, h3⟩ := h
  injection e with e1 e2 e3
  subst e1 e2 e3
  obtain ⟨b, off, rfl, hb, hj⟩ := h3 (by have := (List.getElem?_eq_some_iff.1 hx).1; omega)
  exact ⟨b, off, rfl, hb, rfl, hj k x hx⟩
/-- One text in a new slice. -/
theorem Texts.one {w : World} {q : Nat} {t : List UInt8} (h : w.heap[q]? = some (.cells #[tV t] 9 (0, 0))) : Texts w (.slice (some ⟨q, 0, none⟩) 1 1) [t] :=
  ⟨_, 1, rfl, by simp, fun _ => ⟨q, 0, rfl, (Array.getElem?_eq_some_iff.1 h).1, fun j x hx => by
    rw [Nat.zero_add, cell_of h]
    match j, hx with
    | 0, hx => simp at hx; rw [← hx]; rfl⟩⟩
def RT.texts (L : Ts) : RT := ⟨fun v w => Texts w v L, fun _ _ _ h k => h.old k⟩
/-- A slice of the call's own. -/
def OwnT (B : Nat) (w : World) (v : Value) (L : Ts) : Prop := w.ownsRow B 9 1 v L.length (L.map tV)
theorem OwnT.nil (B : Nat) (w : World) : OwnT B w (.slice none 0 0) [] := World.ownsRow_nil _ _ _ _
theorem tVs_get {L : Ts} {j : Nat} {x : List UInt8} (h : L[j]? = some x) : (L.map tV)[j]? = some (tV x) := by simp [h]
theorem OwnT.texts {B : Nat} {w : World} {v : Value} {L : Ts} (h : OwnT B w v L) : Texts w v L := by
  have h' := h
  obtain ⟨_, h | ⟨g, cap, cur, rfl, hbg, hg, hnc, hcm, hcs, htake⟩⟩ := h
  · obtain ⟨rfl, h0⟩ := h
    have := List.eq_nil_of_length_eq_zero h0
    subst this
    exact Texts.nil _
  · refine ⟨_, cap, rfl, by unfold maxLen at hcm; omega, fun _ => ⟨g, 0, rfl, (Array.getElem?_eq_some_iff.1 hg).1, fun j x hx => ?_⟩⟩
    have := World.ownsRow.cells h' (g := g) rfl _ _ (tVs_get hx)
    rw [Addr.add_mid] at this
    exact this
theorem OwnT.kept {B : Nat} {w w' : World} {v : Value} {L : Ts} (h : OwnT B w v L) (k : Below w.heap.size w w') : OwnT B w' v L := by
  obtain ⟨h1, h2⟩ := h
  refine ⟨h1, ?_⟩
  rcases h2 with e | ⟨g, cap, cur, e1, e2, hg, r⟩
  · exact .inl e
  · exact .inr ⟨g, cap, cur, e1, e2, (k.block g (Array.getElem?_eq_some_iff.1 hg).1).trans hg, r⟩
theorem OwnT.kept' {B : Nat} {w w' : World} {v : Value} {L : Ts} (h : OwnT B w v L) (k : ∀ g, v.ownBlock = some g → w'.heap[g]? = w.heap[g]?) : OwnT B w' v L := by
  obtain ⟨h1, h2⟩ := h
  refine ⟨h1, ?_⟩
  rcases h2 with e | ⟨g, cap, cur, e1, e2, hg, r⟩
  · exact .inl e
  · exact .inr ⟨g, cap, cur, e1, e2, (k g (by rw [e1]; rfl)).trans hg, r⟩
theorem OwnT.lower {B B' : Nat} {w : World} {v : Value} {L : Ts} (h : OwnT B w v L) (hB : B' ≤ B) : OwnT B' w v L := by
  obtain ⟨h1, h2⟩ := h
  refine ⟨h1, ?_⟩
  rcases h2 with e | ⟨g, cap, cur, e1, e2, r⟩
  · exact .inl e
  · exact .inr ⟨g, cap, cur, e1, by omega, r⟩
theorem OwnT.typed {B : Nat} {w : World} {v : Value} {L : Ts} (h : OwnT B w v L) {g : Nat} (hg : v.ownBlock = some g) : ∃ cur, w.heap[g]? = some (.cells cur 9 (0, 0)) := by
  rcases h.2 with ⟨rfl, _⟩ | ⟨g', cap, cur, rfl, _, hh, _⟩
  · cases hg
  · injection hg with hg
    subst hg
    exact ⟨cur, hh⟩
theorem OwnT.not {B : Nat} {w : World} {v : Value} {L : Ts} (h : OwnT B w v L) {c : Nat} {x : Array Value} {T : TypeId} (hc : w.heap[c]? = some (.cells x T (0, 0))) (hT : T ≠ 9) : v.ownBlock ≠ some c := by
  intro e
  obtain ⟨cur, hh⟩ := h.typed e
  rw [hc] at hh
  injection hh with hh
  injection hh with _ hh _
  exact hT hh
theorem info_txt : (Tryd.prog.info? 9).map (fun i => (i.zero, i.size, i.bytes)) = some (some (.string .empty), 1, 16) := by kernel_rfl
/-- One more. -/
theorem tappend_own {B : Nat} {w : World} {v : Value} {L : Ts} (ty : TypeId) (t : List UInt8) (h : OwnT B w v L) (hB : B ≤ w.heap.size) (hl : L.length ≤ 1000000) :
    ∃ v' w', (Builtin.append_ #[52, 52] ty #[v, .slice (some ⟨w.heap.size, 0, none⟩) 1 1]).run Tryd.prog (w.alloc (.cells #[tV t] 9)) = .ok v' w' ∧ OwnT B w' v' (L ++ [t]) ∧ Below B w w' ∧ (w.alloc (.cells #[tV t] 9)).grownBy w' v.ownBlock := by
  obtain ⟨i0, hi, hz0, hz1, hz2⟩ := info_parts info_txt
  have b2 : Below w.heap.size w (w.alloc (.cells #[tV t] 9)) := (Below.refl _ _).alloc (Nat.le_refl _) _
  have h2 := h.kept b2
  obtain ⟨v', w', h1, h2, h3, _⟩ := run_append_own_at (P := Tryd.prog) (w.alloc (.cells #[tV t] 9)) B _ ty _ i0 _ 1 16 Tryd.underlying52 hi hz0 hz1 hz2 rfl (by decide) v L.length (L.map tV) h2 ⟨w.heap.size, 0, none⟩ 1 1 [tV t] rfl
    (fun j u hj => by
      rw [Addr.add_mid, Nat.zero_add, cell_of (heap_alloc_last w _)]
      simpa using hj) (fun u hu => by simp at hu; subst hu; rfl) (by unfold maxLen; omega) (by omega) (by simp; omega)
  refine ⟨v', w', h1, ?_, ?_, h3⟩
  · unfold OwnT
    rw [List.length_append]
    simpa using h2
  · exact (b2.mono hB).trans (sgrown_below h3 (by simp; omega) fun g e => (World.ownsRow.lt h g e).1)
theorem index_texts (g o n cap k : Nat) (K : Int) (hK : K = (k : Int)) (h : k < n) (w : World) : (Instr.indexAt 52 (.slice (some ⟨g, o, none⟩) n cap) (.int .i64 K)).run Tryd.prog w = .ok (.pointer (some ⟨g, o + k, none⟩)) w := by
  subst hK
  go_simp
theorem load_text {b o : Nat} {S : ByteArray} {w : World} (h0 : w.cell? ⟨b, o, none⟩ = some (.string S)) : (Instr.loadAt 9 (.pointer (some ⟨b, o, none⟩))).run Tryd.prog w = .ok (.string S) w := by
  go_simp

def RT.bools (l : List Bool) : RT := ⟨fun v w => Bools w v l, fun _ _ _ h k => h.old k⟩
def RT.sumsT (l : Hs) : RT := ⟨fun v w => Sums w v l, fun _ _ _ h k => h.old k⟩

/-! ### Twins -/
def twV (p : List UInt8 × List UInt8) : Value := .agg #[tV p.1, tV p.2]
/-- Block q holds the two texts. -/
def IsTw (p : List UInt8 × List UInt8) (w : World) (q : Nat) : Prop := w.heap[q]? = some (.cells #[tV p.1, tV p.2] 32 (0, 0))
theorem IsTw.old {p : List UInt8 × List UInt8} {w w' : World} {q : Nat} (h : IsTw p w q) (k : Below w.heap.size w w') : IsTw p w' q := (k.block _ (Array.getElem?_eq_some_iff.1 h).1).trans h
theorem IsTw.lt {p : List UInt8 × List UInt8} {w : World} {q : Nat} (h : IsTw p w q) : q < w.heap.size := (Array.getElem?_eq_some_iff.1 h).1
theorem IsTw.c0 {p : List UInt8 × List UInt8} {w : World} {q : Nat} (h : IsTw p w q) : w.cell? ⟨q, 0, none⟩ = some (tV p.1) := cell_of h 0
theorem IsTw.c1 {p : List UInt8 × List UInt8} {w : World} {q : Nat} (h : IsTw p w q) : w.cell? ⟨q, 1, none⟩ = some (tV p.2) := cell_of h 1
theorem tw_info : (Tryd.prog.info? 32).map (·.size) = some 2 := by kernel_rfl
theorem IsTw.range {p : List UInt8 × List UInt8} {w : World} {q : Nat} (h : IsTw p w q) : w.rangeAt q 0 [tV p.1, tV p.2] := fun j u hu => by
  rw [Nat.zero_add, cell_of h]
  simpa using hu
theorem load_tw {p : List UInt8 × List UInt8} {w : World} {q : Nat} (h : IsTw p w q) : (Instr.loadAt 32 (.pointer (some ⟨q, 0, none⟩))).run Tryd.prog w = .ok (twV p) w :=
  run_loadAt_mid _ _ _ _ _ _ h.range Tryd.underlying32 rfl tw_info
theorem IsTw.there {p : List UInt8 × List UInt8} {w : World} {q : Nat} (h : IsTw p w q) : w.there q 0 2 := there_of (l := [tV p.1, tV p.2]) h (by simp)
theorem store_tw {p r : List UInt8 × List UInt8} {w : World} {q : Nat} (h : IsTw p w q) : (Instr.storeAt 32 (.pointer (some ⟨q, 0, none⟩)) (twV r)).run Tryd.prog w = .ok () (w.setCells q 0 [tV r.1, tV r.2]) :=
  run_storeAt_mid w q 0 _ #[tV r.1, tV r.2] h.there tw_info (by simp [tV]; first | rfl | exact ⟨rfl, rfl⟩)
theorem IsTw.set {p r : List UInt8 × List UInt8} {w : World} {q : Nat} (h : IsTw p w q) : IsTw r (w.setCells q 0 [tV r.1, tV r.2]) q := by
  have := heap_setCells q 32 [tV r.1, tV r.2] 0 [tV p.1, tV p.2] w (by simp) h
  unfold IsTw
  simpa using this
theorem IsTw.far {p : List UInt8 × List UInt8} {w : World} {q k : Nat} {cs : List Value} (h : IsTw p w k) (hk : k ≠ q) : IsTw p (w.setCells q 0 cs) k := ((only_setCells (b := q) cs 0 w (Only.refl _ _)).block k (Array.getElem?_eq_some_iff.1 h).1 hk).trans h
theorem fld_tw0 (b : Nat) (w : World) : (Instr.fieldAt 32 (.pointer (some ⟨b, 0, none⟩)) 0).run Tryd.prog w = .ok (.pointer (some ⟨b, 0, none⟩)) w := by
  go_simp
theorem fld_tw1 (b : Nat) (w : World) : (Instr.fieldAt 32 (.pointer (some ⟨b, 0, none⟩)) 1).run Tryd.prog w = .ok (.pointer (some ⟨b, 1, none⟩)) w := by
  go_simp
section
variable {ops : Array Oper} {Q : Exit → Act → World → Prop} {a : Act} {w : World} {K : Act → World → Prop} {o : Oper}
theorem rop_extractT (x : Operand) (i : Nat) (hop : o.op = .extract x i) {vs : Array Value} {v : Value} (hx : a.eval x = .tuple vs) (hv : vs[i]? = some v) (hw : Region.wanted o (yielded ops a.tmps) = true) (h : K (a.put o.dst v) w) :
    if Region.wanted o (yielded ops a.tmps) = true then Oper.wp Tryd.prog o a w K Q else K (a.put o.dst undef) w :=
  rop_v hw (by simp [execOp, hop, hx, Instr.extract, hv]) h
theorem rop_buildT (t : TypeId) (parts : Array (Nat × Operand)) (hop : o.op = .build t parts) (L : List (Nat × Value)) (hL : (parts.map fun (i, x) => (i, a.eval x)).toList = L) {cells : Array Value} (hb : Tryd.prog.built t L = some cells) (hw : Region.wanted o (yielded ops a.tmps) = true) (h : K (a.put o.dst (.agg cells)) w) :
    if Region.wanted o (yielded ops a.tmps) = true then Oper.wp Tryd.prog o a w K Q else K (a.put o.dst undef) w :=
  rop_v hw (by
    have hr := run_build (P := Tryd.prog) w t (parts.map fun (i, x) => (i, a.eval x)) cells (by rw [hL]; exact hb)
    simp [execOp, hop, hr]) h
end
theorem built_tw0 : Tryd.prog.built 32 [] = some #[tV [], tV []] := by kernel_rfl
theorem tS_toList (t : List UInt8) : (tS t).toList = t := by rw [Lib.toList_data, tS_list]
theorem toList_eq (S T : ByteArray) : (S.toList == T.toList) = decide (S = T) := by
  rw [Lib.toList_data, Lib.toList_data]
  by_cases h : S = T
  · subst h; simp
  · rw [decide_eq_false h]
    simp only [beq_eq_false_iff_ne, ne_eq]
    exact fun e => h (by rw [← tS_of S, ← tS_of T, e])
theorem neq_txt (S T : ByteArray) (w : World) : (binOp .neq 9 (.string S) (.string T)).run Tryd.prog w = .ok (.bool (decide (S ≠ T))) w := by
  go_simp
  exact toList_eq S T
theorem eql_tw (p r : List UInt8 × List UInt8) (w : World) : (binOp .eql 32 (twV p) (twV r)).run Tryd.prog w = .ok (.bool (decide (p = r))) w := by
  obtain ⟨a, b⟩ := p
  obtain ⟨c, d⟩ := r
  unfold twV tV
  go_simp
  rw [tS_toList, tS_toList, tS_toList, tS_toList]
  by_cases h1 : a = c <;> by_cases h2 : b = d <;> simp [h1, h2]
theorem neq_tw (p r : List UInt8 × List UInt8) (w : World) : (binOp .neq 32 (twV p) (twV r)).run Tryd.prog w = .ok (.bool (decide (p ≠ r))) w := by
  obtain ⟨a, b⟩ := p
  obtain ⟨c, d⟩ := r
  unfold twV tV
  go_simp
  rw [tS_toList, tS_toList, tS_toList, tS_toList]
  by_cases h1 : a = c <;> by_cases h2 : b = d <;> simp [h1, h2]
theorem guard_tw (op : BinOp) (x y : Operand) (p r : List UInt8 × List UInt8) (w : World) : (eqGuard op 32 x y (twV p) (twV r)).run Tryd.prog w = .ok () w := run_eqGuard_agg w op 32 x y _ _ (by kernel_rfl)
end Go.Proofs.YtdcebdleneieeaaDoor
