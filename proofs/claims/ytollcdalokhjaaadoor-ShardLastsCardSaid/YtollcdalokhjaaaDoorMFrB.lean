/-
  Several texts in one (FrontBytes, FrontPeak, FrontParse, FrontRead, FrontAll, FrontAwake).
-/
import Derived.Test.YtollcdalokhjaaaDoorMFrA
import Derived.Test.YtollcdalokhjaaaDoorMOctL
import Derived.Test.YtollcdalokhjaaaDoorMLeafB
import Derived.Test.YtollcdalokhjaaaDoorMLeafL
/-! ## Package front: Bytes; the document's own. -/
namespace Go.Proofs.YtollcdalokhjaaaDoor
open Go.RowKit

/-- Hashes as texts. -/
def strS (P : Hs) : List ByteArray := P.map fun x => ⟨x.toArray⟩
theorem strS_length (P : Hs) : (strS P).length = P.length := by simp [strS]
theorem strS_take (P : Hs) (k : Nat) (h : k < P.length) : (strS (P.take (k + 1))).map Value.string = (strS (P.take k)).map Value.string ++ [.string ⟨P[k].toArray⟩] := by
  unfold strS
  rw [List.take_succ_eq_append_getElem h, List.map_append, List.map_append]
  rfl
theorem strS_small (P : Hs) (h : all32 P) : ∀ t ∈ strS P, t.size ≤ 1000 := by
  intro t ht
  obtain ⟨x, hx, rfl⟩ := List.mem_map.1 ht
  have := h x hx
  simp [ByteArray.size, this]
theorem row_keep {base : Nat} {e : TypeId} {size : Nat} {v : Value} {n : Nat} {xs : List Value} {w w' : World} (h : w.ownsRow base e size v n xs) (k : Below w.heap.size w w') : w'.ownsRow base e size v n xs := by
  obtain ⟨h1, h2⟩ := h
  refine ⟨h1, ?_⟩
  rcases h2 with h2 | ⟨g, cap, cur, hv, hg, hh, r⟩
  · exact Or.inl h2
  · exact Or.inr ⟨g, cap, cur, hv, hg, (k.block g (Array.getElem?_eq_some_iff.1 hh).1).trans hh, r⟩
/-- The bytes of a front. -/
def frontB (n : Nat) (P : Hs) : ByteArray := Oct.putB n ++ ⟨(listL (strS P)).toArray⟩
theorem list_size (P : Hs) (h : all32 P) (hl : P.length ≤ 1000) : (⟨(listL (strS P)).toArray⟩ : ByteArray).size ≤ 1100000 := by
  have h1 := txts_length (strS P) (strS_small P h)
  have h2 := putL_le (strS P).length (by rw [strS_length]; omega)
  rw [strS_length] at h1 h2
  rw [ByteArray.size, List.size_toArray, listL, List.length_append, strS_length]
  omega

end Go.Proofs.YtollcdalokhjaaaDoor
/-! ## Package front: the closure by which Read takes a peak. -/
namespace Go.Proofs.YtollcdalokhjaaaDoor
open Go.RowKit

theorem load_frontP {b o : Nat} {a : Option Addr} {w : World} (h : w.cell? ⟨b, o, none⟩ = some (.pointer a)) : (Instr.loadAt 99 (.pointer (some ⟨b, o, none⟩))).run Tryd.prog w = .ok (.pointer a) w := by
  go_simp
theorem load_strsl {b o : Nat} {x : Option Addr} {n c : Nat} {w : World} (h : w.cell? ⟨b, o, none⟩ = some (.slice x n c)) : (Instr.loadAt 124 (.pointer (some ⟨b, o, none⟩))).run Tryd.prog w = .ok (.slice x n c) w := by
  go_simp
theorem load_strX {b o : Nat} {X : ByteArray} {w : World} (h : w.cell? ⟨b, o, none⟩ = some (.string X)) : (Instr.loadAt 9 (.pointer (some ⟨b, o, none⟩))).run Tryd.prog w = .ok (.string X) w := by
  go_simp
theorem index_strs (b o n cap k : Nat) (h : k < n) (w : World) : (Instr.indexAt 124 (.slice (some ⟨b, o, none⟩) n cap) (.int .i64 (k : Int))).run Tryd.prog w = .ok (.pointer (some ⟨b, o + k, none⟩)) w := by
  go_simp
set_option maxRecDepth 1000000 in
theorem alen32 : Tryd.prog.arrayLen 33 = 32 := by kernel_rfl
set_option maxRecDepth 1000000 in
theorem aelem32 : Tryd.prog.elem 33 = 5 := by kernel_rfl
set_option maxRecDepth 1000000 in
theorem sslice32 (b o : Nat) (w : World) : (Instr.sliceAt 33 (.pointer (some ⟨b, o, none⟩)) none none none).run Tryd.prog w = .ok (.slice (some ⟨b, o, none⟩) 32 32) w := by
  have hl := alen32
  rw [run_sliceAt_array_all (P := Tryd.prog) w _ _ Tryd.underlying33, aelem32, size_u8, hl]
  simp [Result.andThen, slicedAt, Addr.add]
theorem keep_cell {q o b : Nat} {v : Value} {w : World} (h : w.cell? ⟨q, o, none⟩ = some v) (hne : q ≠ b) (off : Nat) (vs : List Value) : (w.setCells b off vs).cell? ⟨q, o, none⟩ = some v := by
  have hlt : q < w.heap.size := by
    unfold World.cell? at h
    split at h
    · rename_i heq; exact (Array.getElem?_eq_some_iff.1 heq).1
    · cases h
  exact ((only_setCells (b := b) vs off w (Only.refl _ _)).cellA (p := ⟨q, o, none⟩) hlt hne).trans h
section
variable {ops : Array Oper} {Q : Exit → Act → World → Prop} {a : Act} {w w' : World} {K : Act → World → Prop} {o : Oper}
theorem rop_copyF (s x : Operand) (t1 t2 : TypeId) (hop : o.op = .call { callee := .builtin .copy, args := #[s, x], argTypes := #[t1, t2] }) {v u v' : Value} (hs : a.eval s = v) (hx : a.eval x = u) (hr : (Builtin.copy_ #[t1, t2] o.type #[v, u]).run Tryd.prog w = .ok v' w') (hw : Region.wanted o (yielded ops a.tmps) = true) (h : K (a.put o.dst v') w') :
    if Region.wanted o (yielded ops a.tmps) = true then Oper.wp Tryd.prog o a w K Q else K (a.put o.dst undef) w := by
  rw [if_pos hw]
  unfold Oper.wp execOp
  simp only [hop, resolve, invoke, builtin, Sem.run_bind, Sem.run_pure, Result.andThen_ok, List.map_toArray, List.map_cons, List.map_nil, hs, hx, hr]
  exact h
end
end Go.Proofs.YtollcdalokhjaaaDoor
/-! ## Plain mathematics: which bytes are a front's, and which front's. -/
namespace Go.Proofs.YtollcdalokhjaaaDoor
open Go.RowKit

theorem OctI_numV_nil (most : Int) : numV none most = 0 := by unfold numV longV; split <;> rfl
theorem OctI_numS_nil (most : Int) : numS none most = none := by unfold numS longS; split <;> rfl
/-- How many leaves the bytes s say, and the list that stands behind. -/
def numF (s : List UInt8) : Nat := numV (some s) 1099511627776
def lstF (s : List UInt8) (most : Int) : List (List UInt8) × Option (List UInt8) := listR (numS (some s) 1099511627776) most
/-- The front whose bytes s is, if there is one. -/
def okF (s : List UInt8) : Prop := (lstF s (Tree.ones (numF s))).2 = some [] ∧ (lstF s (Tree.ones (numF s))).1.length = Tree.ones (numF s) ∧ all32 (lstF s (Tree.ones (numF s))).1
theorem numF_le (s : List UInt8) : numF s ≤ 1099511627776 := by
  unfold numF numV
  split
  · omega
  · omega
theorem numF_ones (s : List UInt8) : Tree.ones (numF s) ≤ 40 := Tree.ones_most _ (numF_le s)
theorem strS_strs (P : Hs) : strS P = strs P := rfl
theorem frontB_data (n : Nat) (P : Hs) : (frontB n P).data.toList = Oct.putL n ++ listL (strS P) := by
  unfold frontB
  rw [app_data]
  rfl
/-- Bytes that are a front's are those that are written of it. -/
theorem okF_bytes {s : ByteArray} (h : okF s.data.toList) : frontB (numF s.data.toList) (lstF s.data.toList (Tree.ones (numF s.data.toList))).1 = s := by
  obtain ⟨h1, h2, h3⟩ := h
  obtain ⟨l, hl⟩ : ∃ l, l = s.data.toList := ⟨_, rfl⟩
  rw [← hl] at h1 h2 h3 ⊢
  apply ByteArray.ext
  apply Array.toList_inj.1
  rw [frontB_data, ← hl]
  cases hn : numS (some l) 1099511627776 with
  | none =>
    unfold lstF at h1
    rw [hn] at h1
    unfold listR at h1
    rw [OctI_numV_nil, OctI_numS_nil] at h1
    cases h1
  | some q =>
    obtain ⟨e1, -⟩ := OctI.numS_inv (most := 1099511627776) hn
    have hq : listR (some q) (Tree.ones (numF l)) = ((lstF l (Tree.ones (numF l))).1, some []) := by
      rw [← h1]
      unfold lstF
      rw [hn]
    obtain ⟨e2, -⟩ := OctI.list_inv hq
    conv => rhs; rw [e1, e2]
    rw [List.append_nil]
    rfl
/-- What is written of a front are its bytes. -/
theorem okF_put (n : Nat) (P : Hs) (hn : n ≤ 1099511627776) (hl : P.length = Tree.ones n) (ha : all32 P) : numF (frontB n P).data.toList = n ∧ lstF (frontB n P).data.toList (Tree.ones n) = (P, some []) := by
  have hm : ¬ ((1099511627776 : Int) < 0 ∨ (1099511627776 : Int) < n) := by omega
  have h40 := Tree.ones_most n hn
  rw [frontB_data]
  have e1 := numV_put n (by omega) (listL (strS P)) 1099511627776 hm
  have e2 := numS_put n (by omega) (listL (strS P)) 1099511627776 hm
  refine ⟨e1, ?_⟩
  unfold lstF
  rw [e2]
  have := OctI.list_parts (strS P) [] (Tree.ones n) (by rw [strS_length]; omega) (by rw [strS_length]; omega) (strS_small P ha)
  rw [List.append_nil] at this
  rw [this]
  congr 1
  unfold strS
  rw [List.map_map]
  conv => rhs; rw [← List.map_id P]
  exact List.map_congr_left fun x _ => rfl
/-- Too many leaves: no front. -/
theorem okF_big (n : Nat) (P : Hs) (hn : 1099511627776 < n) (h64 : n < 18446744073709551616) : numF (frontB n P).data.toList = 0 ∧ ∀ most, lstF (frontB n P).data.toList most = ([], none) := by
  rw [frontB_data]
  obtain ⟨e1, e2⟩ := num_bad n h64 (listL (strS P)) 1099511627776 (.inr (by omega))
  refine ⟨e1, fun most => ?_⟩
  unfold lstF
  rw [e2]
  unfold listR
  rw [OctI_numV_nil, OctI_numS_nil]
  rfl
/-- The document reads up to 64 texts. -/
theorem lst64 (s : List UInt8) (L : List (List UInt8)) (hL : L.length = Tree.ones (numF s)) : lstF s 64 = (L, some []) ↔ lstF s (Tree.ones (numF s)) = (L, some []) := by
  have := numF_ones s
  exact OctI.list_most _ (Tree.ones (numF s)) 64 (by omega) L [] hL
theorem ok64 (s : List UInt8) : okF s ↔ ((lstF s 64).2 = some [] ∧ (lstF s 64).1.length = Tree.ones (numF s) ∧ all32 (lstF s 64).1) := by
  constructor
  · rintro ⟨h1, h2, h3⟩
    have := (lst64 s _ h2).2 (by rw [← h1])
    rw [this]
    exact ⟨rfl, h2, h3⟩
  · rintro ⟨h1, h2, h3⟩
    have := (lst64 s _ h2).1 (by rw [← h1])
    unfold okF
    rw [this]
    exact ⟨rfl, h2, h3⟩
theorem ok64_eq {s : List UInt8} (h : okF s) : lstF s 64 = lstF s (Tree.ones (numF s)) := by
  have := (lst64 s _ h.2.1).2 (by rw [← h.1])
  rw [this, ← h.1]
end Go.Proofs.YtollcdalokhjaaaDoor
/-! ## Package front: Read. -/
namespace Go.Proofs.YtollcdalokhjaaaDoor
open Go.RowKit

theorem neq_errF (a b : Int) (h : ¬ a = b) (w : World) : (binOp .neq 29 (.int .i64 a) (.int .i64 b)).run Tryd.prog w = .ok (.bool true) w := by
  have h' : (a == b) = false := by simpa using h
  go_simp
theorem neq_errT (a : Int) (w : World) : (binOp .neq 29 (.int .i64 a) (.int .i64 a)).run Tryd.prog w = .ok (.bool false) w := by
  have h' : (a == a) = true := by simp
  go_simp
theorem neq_iF (a b : Int) (h : ¬ a = b) (w : World) : (binOp .neq 3 (.int .i64 a) (.int .i64 b)).run Tryd.prog w = .ok (.bool true) w := by
  have h' : (a == b) = false := by simpa using h
  go_simp
theorem neq_iT (a b : Int) (h : a = b) (w : World) : (binOp .neq 3 (.int .i64 a) (.int .i64 b)).run Tryd.prog w = .ok (.bool false) w := by
  subst h
  have h' : (a == a) = true := by simp
  go_simp
set_option maxRecDepth 1000000 in
theorem zc_front : Tryd.zeroCells66 = (fL 0 zQ).toArray := by kernel_rfl
theorem zset_front (n : Nat) : Tryd.zeroCells66.setIfInBounds 0 (.int .i64 (n : Int)) = (fL n zQ).toArray := by
  rw [zc_front]
  simp [fL]
end Go.Proofs.YtollcdalokhjaaaDoor
/-! ## Package front: its calls in one look: a front with n leaves, whose whole parts have the roots P. -/
namespace Go.Proofs.YtollcdalokhjaaaDoor
open Go.RowKit

/-- Block b is a front of n leaves, whose whole parts' roots are P. -/
def FP (b n : Nat) (P : Hs) (w : World) : Prop := n ≤ 1099511627776 ∧ b ≠ 0 ∧ ∃ Q, Front b n Q w ∧ Q.take (Tree.ones n) = P
theorem FP.len {b n : Nat} {P : Hs} {w : World} (h : FP b n P w) : P.length = Tree.ones n := by
  obtain ⟨hn, -, Q, hf, rfl⟩ := h
  have := Tree.ones_most n hn
  rw [List.length_take, hf.1]; omega
theorem FP.ok {b n : Nat} {P : Hs} {w : World} (h : FP b n P w) : all32 P := by
  obtain ⟨hn, -, Q, hf, rfl⟩ := h
  exact hf.2.1.take _
theorem FP.len40 {b n : Nat} {P : Hs} {w : World} (h : FP b n P w) : P.length ≤ 40 := by
  rw [h.len]; exact Tree.ones_most n h.1
theorem FP.lt {b n : Nat} {P : Hs} {w : World} (h : FP b n P w) : b < w.heap.size := by
  obtain ⟨-, -, Q, hf, -⟩ := h
  exact hf.lt
theorem FP.old {b n : Nat} {P : Hs} {w w' : World} (h : FP b n P w) (k : Below w.heap.size w w') : FP b n P w' := by
  obtain ⟨hn, hb, Q, hf, hq⟩ := h
  exact ⟨hn, hb, Q, hf.old' k, hq⟩
theorem FP.kept {b q n : Nat} {P : Hs} {w w' : World} (h : FP b n P w) (k : Only q w w') (hq : b ≠ q) : FP b n P w' := by
  obtain ⟨hn, hb, Q, hf, he⟩ := h
  exact ⟨hn, hb, Q, hf.kept k hq, he⟩
theorem add_fp (b n : Nat) (P : Hs) (x : List UInt8) (w : World) (h : FP b n P w) (hn : n < 1099511627776) (hx : x.length = 32) (hK : KT w) :
    Calls Tryd.prog 41 #[.pointer (some ⟨b, 0, none⟩), sumV x] w fun e w' => e = .returned (.int .i64 ((n + 1 : Nat) : Int)) ∧ FP b (n + 1) (Tree.addP n P x) w' ∧ Only b w w' := by
  obtain ⟨-, hb, Q, hf, rfl⟩ := h
  exact (fadd_any b n Q x w hf hn hb hx hK).mono fun e w' ⟨h1, ⟨Q', h2, h3⟩, h4⟩ => ⟨h1, ⟨by omega, hb, Q', h2, h3⟩, h4⟩
theorem peaks_fp (b n : Nat) (P : Hs) (w : World) (h : FP b n P w) :
    Calls Tryd.prog 55 #[.pointer (some ⟨b, 0, none⟩)] w fun e w' => ∃ v', e = .returned v' ∧ OwnS w.heap.size w' v' P ∧ Below w.heap.size w w' := by
  obtain ⟨hn, -, Q, hf, rfl⟩ := h
  exact fpeaks_any b n Q w hf hn
theorem root_fp (b n : Nat) (P : Hs) (w : World) (h : FP b n P w) (hK : KT w) :
    Calls Tryd.prog 36 #[.pointer (some ⟨b, 0, none⟩)] w fun e w' => e = .returned (sumV (Tree.rootP P)) ∧ Below w.heap.size w w' :=
  froot_gen _ P w (fun u hu => peaks_fp b n P u (h.old hu)) h.len40 h.ok hK
theorem frontB_size (n : Nat) (P : Hs) (hn : n < 18446744073709551616) (hl : P.length ≤ 41) (ha : all32 P) : (frontB n P).size ≤ 100000 := by
  have h1 := txts_length (strS P) (strS_small P ha)
  have h2 := putL_le (strS P).length (by rw [strS_length]; omega)
  have h3 := putL_le n hn
  rw [strS_length] at h1 h2
  rw [Lib.size_eq, frontB_data, List.length_append, listL, List.length_append, strS_length]
  omega
theorem frontB_0 : frontB 0 [] = ⟨#[0, 0]⟩ := by decide
theorem peaks_none (w : World) (hK : KT w) : Calls Tryd.prog 36 #[.pointer none] w fun e w' => e = .returned (sumV Tree.empty) ∧ Below w.heap.size w w' :=
  froot_gen _ [] w (fun u _ => (fpeaks_nil u).mono fun e w' ⟨h1, h2⟩ => ⟨_, h1, OwnS.nil _ _, h2 ▸ Below.refl _ _⟩) (by simp) all32.nil hK
/-- Roots, as they are added one by one. -/
theorem addP_take (l : Hs) (i : Nat) (h : i < l.length) : Tree.addP i (Tree.peaks (l.take i)) l[i] = Tree.peaks (l.take (i + 1)) := by
  have := Tree.addP_peaks (l.take i) l[i]
  rwa [List.length_take, Nat.min_eq_left (Nat.le_of_lt h), ← List.take_succ_eq_append_getElem h] at this
end Go.Proofs.YtollcdalokhjaaaDoor
/-! ## The statements' own helpers awake and few (scriniumlaw11); what laws of fronts want besides. -/
namespace Go.Proofs.YtollcdalokhjaaaDoor
open Go.RowKit

/-- A new variable that is a hash, as it is stored to. -/
theorem var_sumF (w : World) (x : List UInt8) (h : x.length = 32) : ((w.alloc zSum).setCells w.heap.size 0 (x.map u8V)).heap[w.heap.size]? = some (.cells (x.map u8V).toArray 33 (0, 0)) ∧ Below w.heap.size w ((w.alloc zSum).setCells w.heap.size 0 (x.map u8V)) :=
  ⟨heap_setCells_all w _ _ (by simp [h]), below_setCells (Nat.le_refl _) _ _ _ ((Below.refl _ _).alloc (Nat.le_refl _) _)⟩
theorem fneq_str_f (a : ByteArray) (w : World) : (binOp .neq 9 (.string a) (.string a)).run Tryd.prog w = .ok (.bool false) w := by
  have h' : (a.toList == a.toList) = true := by simp
  go_simp
theorem KT.posF {w : World} (h : KT w) : 0 < w.heap.size := h.pos
theorem below_onlyF {B b : Nat} {w u v : World} (h : Below B w u) (k : Only b u v) (hb : B ≤ b) (hB : B ≤ w.heap.size) : Below B w v := h.trans (k.below hb (Nat.le_trans hB h.size))
theorem addP3 (A B C : List UInt8) : Tree.addP 0 [] A = [A] ∧ Tree.addP 1 [A] B = [Tree.node A B] ∧ Tree.addP 2 [Tree.node A B] C = [Tree.node A B, C] := by
  refine ⟨by rw [Tree.addP_even (by decide)]; rfl, ?_, by rw [Tree.addP_even (by decide)]; rfl⟩
  rw [Tree.addP_odd (by decide), Tree.addP_even (by decide)]
  rfl
end Go.Proofs.YtollcdalokhjaaaDoor
