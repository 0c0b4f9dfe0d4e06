/-
  Several texts in one (PathVar, PathInto, PathLinks, RPath, PathAwake, PathLaw).
-/
import Derived.Test.YtollcdalokhjaaaDoorMPathA
import Derived.Test.YtollcdalokhjaaaDoorMLeafB
import Derived.Deep.DeepCutAuto
import Derived.Laws.EntriesVeiled
import Derived.Test.YtollcdalokhjaaaDoorMLeafL
/-! ## A variable that holds a row of hashes, and one that holds the closure that puts to it: what lies in memory, what an append does. -/
namespace Go.Proofs.YtollcdalokhjaaaDoor
open Go.RowKit

theorem KT.oldB {B : Nat} {w w' : World} (hK : KT w) (h : Below B w w') (hB : 0 < B) : KT w' := fun i hi => (h.cell (by exact hB)).trans (hK i hi)
/-- Block cp is a variable that has the row P, which is the call's own; block ci is one that has the closure f. -/
structure IC (B cp ci : Nat) (T : TypeId) (f : Value) (P : Hs) (w : World) : Prop where
  row : ∃ v, w.heap[cp]? = some (.cells #[v] 27 (0, 0)) ∧ OwnS B w v P
  fn : w.heap[ci]? = some (.cells #[f] T (0, 0))
  lc : B ≤ cp
  li : B ≤ ci
  ne : cp ≠ ci
theorem IC.lt {B cp ci : Nat} {T : TypeId} {f : Value} {P : Hs} {w : World} (h : IC B cp ci T f P w) : cp < w.heap.size ∧ ci < w.heap.size := by
  obtain ⟨v, h1, _⟩ := h.row
  exact ⟨(Array.getElem?_eq_some_iff.1 h1).1, (Array.getElem?_eq_some_iff.1 h.fn).1⟩
theorem IC.size {B cp ci : Nat} {T : TypeId} {f : Value} {P : Hs} {w : World} (h : IC B cp ci T f P w) : B ≤ w.heap.size := by have := h.lt; have := h.lc; omega
theorem IC.old {B cp ci : Nat} {T : TypeId} {f : Value} {P : Hs} {w w' : World} (h : IC B cp ci T f P w) (hb : Below w.heap.size w w') : IC B cp ci T f P w' := by
  obtain ⟨v, h1, h2⟩ := h.row
  have hl := h.lt
  exact ⟨⟨v, (hb.block _ hl.1).trans h1, h2.kept hb⟩, (hb.block _ hl.2).trans h.fn, h.lc, h.li, h.ne⟩
theorem OwnS.typed {B : Nat} {w : World} {v : Value} {l : Hs} (h : OwnS B w v l) {g : Nat} (hg : v.ownBlock = some g) : ∃ cur, w.heap[g]? = some (.cells cur 33 (0, 0)) := by
  rcases h.1.2 with ⟨rfl, _⟩ | ⟨g', cap, cur, rfl, _, hh, _⟩
  · cases hg
  · injection hg with hg
    subst hg
    exact ⟨cur, hh⟩
theorem OwnS.not {B : Nat} {w : World} {v : Value} {l : Hs} (h : OwnS B w v l) {c : Nat} {x : Array Value} {T : TypeId} (hc : w.heap[c]? = some (.cells x T (0, 0))) (hT : T ≠ 33) : v.ownBlock ≠ some c := by
  intro e
  obtain ⟨cur, hh⟩ := h.typed e
  rw [hc] at hh
  injection hh with hh
  injection hh with _ hh _
  exact hT hh
theorem ne_sums : 27 ≠ 33 := by decide
/-- The append: the variables stay as they are. -/
theorem IC.app {B cp ci : Nat} {T : TypeId} {f : Value} {P : Hs} {w : World} (h : IC B cp ci T f P w) (hT : T ≠ 33) {v0 : Value} (hv : w.heap[cp]? = some (.cells #[v0] 27 (0, 0))) {w1 : World} (hb : Below w.heap.size w w1) {x : Value} {D : List UInt8} (hx : Sums w1 x [D]) (hl : P.length ≤ 1000000) (ty : TypeId) :
    ∃ v6 w6, (Builtin.append_ #[27, 27] ty #[v0, x]).run Tryd.prog w1 = .ok v6 w6 ∧ OwnS B w6 v6 (P ++ [D]) ∧ Below B w w6 ∧ w6.heap[cp]? = some (.cells #[v0] 27 (0, 0)) ∧ w6.heap[ci]? = some (.cells #[f] T (0, 0)) := by
  obtain ⟨v, h1, h2⟩ := h.row
  rw [hv] at h1
  injection h1 with h1
  injection h1 with h1 _ _
  obtain rfl : v0 = v := by simpa using h1
  have hl' := h.lt
  have hs := hb.size
  have hlc := h.lc
  have ho1 := h2.kept hb
  obtain ⟨v6, w6, hr, ho, bb, hg, _⟩ := sappend_own' (B := B) ty ho1 hx (by omega) (by simp; omega)
  have c1 := (hb.block _ hl'.1).trans hv
  have c2 := (hb.block _ hl'.2).trans h.fn
  exact ⟨v6, w6, hr, ho, (hb.mono (by omega)).trans bb, (hg.block _ (by omega) (fun e => ho1.not c1 ne_sums e.symm)).trans c1, (hg.block _ (by omega) (fun e => ho1.not c2 hT e.symm)).trans c2⟩
/-- The store. -/
theorem IC.put {B cp ci : Nat} {T : TypeId} {f : Value} {Q : Hs} {w : World} {v v0 : Value} (ho : OwnS B w v Q) (hc : w.heap[cp]? = some (.cells #[v0] 27 (0, 0))) (hf : w.heap[ci]? = some (.cells #[f] T (0, 0))) (lc : B ≤ cp) (li : B ≤ ci) (ne : cp ≠ ci) : IC B cp ci T f Q (w.setCell ⟨cp, 0, none⟩ v) := by
  refine ⟨⟨v, ?_, ho.kept' fun g e => heap_far (fun e' => ho.not hc ne_sums (by rw [e, e'])) v⟩, (heap_far (Ne.symm ne) v).trans hf, lc, li, ne⟩
  have := heap_set (i := 0) hc v
  simpa using this
theorem store_sumsl {b o : Nat} {x : Option Addr} {n c : Nat} {u : Value} {w : World} (h0 : w.cell? ⟨b, o, none⟩ = some u) (h1 : w.frozen? ⟨b, o, none⟩ = false) : (Instr.storeAt 27 (.pointer (some ⟨b, o, none⟩)) (.slice x n c)).run Tryd.prog w = .ok () (w.setCell ⟨b, o, none⟩ (.slice x n c)) := by
  go_simp
theorem load_sumslP {b o : Nat} {x : Option Addr} {n c : Nat} {w : World} (h0 : w.cell? ⟨b, o, none⟩ = some (.slice x n c)) : (Instr.loadAt 27 (.pointer (some ⟨b, o, none⟩))).run Tryd.prog w = .ok (.slice x n c) w := by
  go_simp
/-- How the world goes on, where from effect N on blocks of the call's own may turn. -/
def GLy (N : Nat) (k k' : Nat) (w w' : World) : Prop := (k = k' ∧ w = w') ∨ (k' = k + 1 ∧ (k' < N → Below w.heap.size w w'))
theorem GLy.same {N k : Nat} {w : World} : GLy N k k w w := .inl ⟨rfl, rfl⟩
theorem GLy.old {N k : Nat} {w w' : World} (hb : Below w.heap.size w w') : GLy N k (k + 1) w w' := .inr ⟨rfl, fun _ => hb⟩
theorem GLy.own {N k : Nat} {w w' : World} (h : N ≤ k + 1) : GLy N k (k + 1) w w' := .inr ⟨rfl, fun h' => absurd h' (by omega)⟩
/-- What lasts till blocks of the call's own turn. -/
def RXP.tillY {N : Nat} (p : Value → World → Prop) (hp : ∀ v w w', p v w → Below w.heap.size w w' → p v w') : RXP (GLy N) := ⟨fun k v w => k < N → p v w, fun v w w' k k' h hx hk => by
  rcases hx with ⟨rfl, rfl⟩ | ⟨rfl, hb⟩
  · exact h hk
  · exact hp v w w' (h (by omega)) (hb hk)⟩
/-- What is so right behind effect N. -/
def RXP.atY {N : Nat} (p : Value → World → Prop) : RXP (GLy N) := ⟨fun k v w => N ≤ k ∧ (k = N → p v w), fun v w w' k k' h hx => by
  rcases hx with ⟨rfl, rfl⟩ | ⟨rfl, hb⟩
  · exact h
  · exact ⟨by omega, fun e => by omega⟩⟩
end Go.Proofs.YtollcdalokhjaaaDoor
/-! ## Package path: the closure of Path, and Path. -/
namespace Go.Proofs.YtollcdalokhjaaaDoor
open Go.RowKit

set_option maxHeartbeats 3200000 in
set_option maxRecDepth 100000 in
theorem into_any (B cp ci : Nat) (hB0 : 0 < B) (n : Nat) : ∀ (l : Hs) (m : Nat) (P : Hs) (v : Value) (w : World), l.length = n → P.length + n ≤ 100000 → m < l.length → SumsB B w v l → IC B cp ci 95 (.func (.func 51) #[] #[.pointer (some ⟨ci, 0, none⟩), .pointer (some ⟨cp, 0, none⟩)]) P w → KT w →
    Calls Tryd.prog 51 #[v, .int .i64 (m : Int), .pointer (some ⟨ci, 0, none⟩), .pointer (some ⟨cp, 0, none⟩)] w fun e w' => e = .returned (.tuple #[]) ∧ IC B cp ci 95 (.func (.func 51) #[] #[.pointer (some ⟨ci, 0, none⟩), .pointer (some ⟨cp, 0, none⟩)]) (P ++ Tree.path l m) w' ∧ Below B w w' := by
  have hTn : 95 ≠ 33 := by decide
  induction n using Nat.strongRecOn with
  | _ n ih =>
  intro l m P v w hlen hP hm hv hI hK
  obtain ⟨va, cap, rfl, hlc, hcap⟩ := hv.1.slice
  by_cases h1 : l.length = 1
  · have hpe : Tree.path l m = [] := Tree.path_small (by omega)
    rw [hpe, List.append_nil, h1]
    have HI := Lib.hid hI
    clear hpe hI hv ih h1 hm hlc hK
    go_enter Tryd.func51, Tryd.ntmps51
    go_wp2
    refine bodyPost_ret (results_none rfl _ _ _) rfl ?_
    exact ⟨rfl, HI.out, Below.refl _ _⟩
  obtain ⟨k, hk⟩ : ∃ k, k = Tree.split l.length := ⟨_, rfl⟩
  have h2 : 2 ≤ l.length := by omega
  have hlt := Tree.split_lt h2
  have hps := Tree.split_pos h2
  rw [← hk] at hlt hps
  have hcut := fun u => cut_any va l.length cap k hk h2 hlc (by omega) u
  have sh := hv.head3 k (by omega) hps
  have st := hv.tail3 k hlt
  have l1 : (l.take k).length = k := by rw [List.length_take]; omega
  have l2 : (l.drop k).length = l.length - k := List.length_drop
  have ho : all32 l := hv.1.ok
  have hsz := hI.size
  have hpl : m < k → Tree.path l m = Tree.path (l.take k) m ++ [Tree.root (l.drop k)] := fun h => by rw [Tree.path_left h2 (by omega), hk]
  have hpr : ¬ m < k → Tree.path l m = Tree.path (l.drop k) (m - k) ++ [Tree.root (l.take k)] := fun h => by rw [Tree.path_right h2 (by omega), hk]
  have hpn : ∀ (l' : Hs) (m' : Nat), (Tree.path l' m').length ≤ l'.length := fun l' m' => by
    rw [Tree.path_length _ _ _ (Nat.le_refl _)]
    exact Tree.long_le _ _ _ (Nat.le_of_lt Nat.lt_two_pow_self)
  rw [hlen] at hcut st hlc hlt hm l2 h2 ⊢
  have h1' : ¬ (n : Int) = 1 := by omega
  have HCUT := Lib.hid hcut
  have HI := Lib.hid hI
  have HK := Lib.hid hK
  have HSH := Lib.hid sh
  have HST := Lib.hid st
  have Ho := Lib.hid ho
  by_cases hmk : m < k
  · have hmk' : (m : Int) < (k : Int) := by omega
    obtain ⟨D, hD⟩ : ∃ D, D = Tree.root (l.drop k) := ⟨_, rfl⟩
    have HDl : Hid (D.length = 32) := Lib.hid (by rw [hD]; exact Tree.root_length _ (ho.drop k))
    obtain ⟨P1, hP1⟩ : ∃ P1, P1 = P ++ Tree.path (l.take k) m := ⟨_, rfl⟩
    have hres : P ++ Tree.path l m = P1 ++ [D] := by rw [hpl hmk, hP1, hD, List.append_assoc]
    have HPl : Hid (P1.length ≤ 1000000) := Lib.hid (by rw [hP1, List.length_append]; have := hpn (l.take k) m; omega)
    have HRES := Lib.hid hres
    have HIH : Hid (∀ u : World, Below w.heap.size w u → Calls Tryd.prog 51 #[.slice va k k, .int .i64 (m : Int), .pointer (some ⟨ci, 0, none⟩), .pointer (some ⟨cp, 0, none⟩)] u fun e w' => e = .returned (.tuple #[]) ∧ IC B cp ci 95 (.func (.func 51) #[] #[.pointer (some ⟨ci, 0, none⟩), .pointer (some ⟨cp, 0, none⟩)]) P1 w' ∧ Below B u w') := Lib.hid fun u hu => by
      rw [hP1]
      exact ih k hlt (l.take k) m P _ u l1 (by omega) (by omega) (HSH.out.keep (hu.mono hsz)) (HI.out.old hu) (HK.out.old hu)
    have HRt0 : Hid (∀ u : World, Below B w u → Calls Tryd.prog 53 #[.slice (cutS va k n) (n - k) (n - k)] u fun e w' => e = .returned (sumV D) ∧ Below u.heap.size u w') := Lib.hid fun u hu => by
      rw [hD]
      exact leafRoot_any _ (l.drop k) _ u rfl (by omega) (HST.out.keep hu).1 (HK.out.oldB hu hB0)
    have HSZ := Lib.hid hsz
    clear hcut hI hK sh st ho hD hP1 hres hpl hpr hpn ih l1 l2 hk hlen h1 hv hP hsz
    go_enter Tryd.func51, Tryd.ntmps51
    go_upto_region 4 with (first
      | (go_at_call 52; ((with_reducible refine (HCUT.out _).mono ?_); rintro e w1 ⟨rfl, b1⟩; have hc1 : w1.cell? ⟨ci, 0, none⟩ = some (.func (.func 51) #[] #[.pointer (some ⟨ci, 0, none⟩), .pointer (some ⟨cp, 0, none⟩)]) := (cell_of (HI.out.old b1).fn 0).trans rfl))
      | (go_at_call 51; ((with_reducible refine (HIH.out _ b1).mono ?_); rintro e w2 ⟨rfl, hI2, b2⟩)))
    have b3 : Below B w w2 := (b1.mono HSZ.out).trans b2
    obtain ⟨W, hW⟩ : ∃ W, W = w2 := ⟨_, rfl⟩
    subst hW
    have HI := Lib.hid hI2
    have HRt : Hid (∀ u : World, Below W.heap.size W u → Calls Tryd.prog 53 #[.slice (cutS va k n) (n - k) (n - k)] u fun e w' => e = .returned (sumV D) ∧ Below u.heap.size u w') := Lib.hid fun u hu => HRt0.out u (b3.trans (hu.mono hI2.size))
    have B3 := Lib.hid b3
    obtain ⟨P, hPP⟩ : ∃ P, P = P1 := ⟨_, rfl⟩
    subst hPP
    clear hI2 b3 b1 b2 hc1
    obtain ⟨v0, hv0, ho0⟩ := HI.out.row
    obtain ⟨a0, c0, rfl, -, -⟩ := ho0.sums.slice
    obtain ⟨n0, hn0⟩ : ∃ n0, n0 = List.length P := ⟨_, rfl⟩
    rw [← hn0] at hv0
    have HC := Lib.hid hv0
    have hcpW := HI.out.lt.1
    clear hv0 ho0 hn0

    try simp only [Act.put]
    refine wp_region_ph (Lx := GLy 3) [RXP.is (.slice a0 n0 c0), RXP.is (.slice (cutS va k n) (n - k) (n - k)), RXP.is (sumV D), RXP.tillY (fun v w => Sums w v [D]) (fun _ _ _ h k => h.old k), RXP.atY (fun v w => OwnS B w v (P ++ [D])), RXP.any] [2, 3, 4, 5] (fun k w' => (k < 3 → Below W.heap.size W w') ∧ (k = 3 → Below B W w' ∧ w'.heap[cp]? = some (.cells #[.slice a0 n0 c0] 27 (0, 0)) ∧ w'.heap[ci]? = some (.cells #[(.func (.func 51) #[] #[.pointer (some ⟨ci, 0, none⟩), .pointer (some ⟨cp, 0, none⟩)])] 95 (0, 0))) ∧ (k = 4 → IC B cp ci 95 (.func (.func 51) #[] #[.pointer (some ⟨ci, 0, none⟩), .pointer (some ⟨cp, 0, none⟩)]) (P ++ [D]) w' ∧ Below B W w')) (by kernel_rfl) (by kernel_rfl) (by kernel_rfl) (by kernel_rfl) (by kernel_rfl) (⟨fun _ => below_drew (Below.refl _ _), fun h => absurd h (by decide), fun h => absurd h (by decide)⟩) ⟨?_, ?_, ?_, ?_, ?_, ?_, trivial⟩ ?_
    · intro ac w' ph hF hPh hlt hP hU K hK0
      have hph : ph ≤ 2 := (hlt 2 4 rfl).2 (by kernel_rfl)
      have e3 : ac.eval (.tmp 3) = .pointer (some ⟨cp, 0, none⟩) := hF.at 3 (by kernel_rfl)
      exact rop_ld _ _ rfl e3 (load_sumslP ((cell_of (((hPh.1 (by omega)).block _ hcpW).trans HC.out) 0).trans rfl)) (wanted_none rfl) (hK0 _ _ GLy.same hPh rfl)
    · intro ac w' ph hF hPh hlt hP hU K hK0
      have e7 : ac.eval (.tmp 7) = .slice (cutS va k n) (n - k) (n - k) := hF.at 7 (by kernel_rfl)
      exact rop_move _ rfl e7 (wanted_none rfl) (hK0 _ _ GLy.same hPh rfl)
    · intro ac w' ph hF hPh hlt hP hU K hK0
      obtain rfl : ph = 0 := (hlt 0 2 rfl).1 rfl
      have e25 : ac.eval (.tmp 25) = .slice (cutS va k n) (n - k) (n - k) := hP 1 (by kernel_rfl)
      have hB : Below W.heap.size W w' := hPh.1 (by omega)
      refine rop_call 53 _ _ rfl #[.slice (cutS va k n) (n - k) (n - k)] (by simp [e25]) (by kernel_rfl) (wanted_none rfl) ?_
      refine (HRt.out w' hB).mono ?_
      rintro e w2 ⟨rfl, hb⟩
      exact ⟨_, rfl, hK0 _ _ (GLy.old hb) ⟨fun _ => below_step hB (Nat.le_refl _) hb, fun h => absurd h (by decide), fun h => absurd h (by decide)⟩ rfl⟩
    · intro ac w' ph hF hPh hlt hP hU K hK0
      obtain rfl : ph = 1 := (hlt 1 3 rfl).1 rfl
      have e26 : ac.eval (.tmp 26) = sumV D := hP 2 (by kernel_rfl)
      have hB : Below W.heap.size W w' := hPh.1 (by omega)
      exact rop_bslG _ _ _ rfl #[(0, sumV D)] (by simp [e26]) (build_sum1 D HDl.out w') (wanted_none rfl) (hK0 _ _ (GLy.old ((Below.refl _ _).alloc (Nat.le_refl _) _)) ⟨fun _ => below_step hB (Nat.le_refl _) ((Below.refl w'.heap.size w').alloc (Nat.le_refl _) (.cells (D.map u8V).toArray 33)), fun h => absurd h (by decide), fun h => absurd h (by decide)⟩ (fun _ => Sums.one w' D HDl.out))
    · intro ac w' ph hF hPh hlt hP hU K hK0
      obtain rfl : ph = 2 := (hlt 2 4 rfl).1 rfl
      have e24 : ac.eval (.tmp 24) = .slice a0 n0 c0 := hP 0 (by kernel_rfl)
      have e27 : 2 < 3 → Sums w' (ac.eval (.tmp 27)) [D] := hP 3 (by kernel_rfl)
      have hB : Below W.heap.size W w' := hPh.1 (by omega)
      obtain ⟨v6, w6, hr6, ho6, b6, c6, f6⟩ := IC.app HI.out hTn HC.out hB (e27 (by decide)) HPl.out 27
      exact rop_appendG _ _ _ rfl e24 rfl hr6 (wanted_none rfl) (hK0 _ _ (GLy.own (by decide)) ⟨fun h => absurd h (by decide), fun _ => ⟨b6, c6, f6⟩, fun h => absurd h (by decide)⟩ ⟨Nat.le_refl _, fun _ => ho6⟩)
    · intro ac w' ph hF hPh hlt hP hU K hK0
      obtain rfl : ph = 3 := (hlt 3 5 rfl).1 rfl
      have e3 : ac.eval (.tmp 3) = .pointer (some ⟨cp, 0, none⟩) := hF.at 3 (by kernel_rfl)
      have e28 : 3 ≤ 3 ∧ (3 = 3 → OwnS B w' (ac.eval (.tmp 28)) (P ++ [D])) := hP 4 (by kernel_rfl)
      obtain ⟨b6, c6, f6⟩ := hPh.2.1 rfl
      have ho6 := e28.2 rfl
      have hic := IC.put ho6 c6 f6 HI.out.lc HI.out.li HI.out.ne
      have hbb := b6.setCell (p := ⟨cp, 0, none⟩) HI.out.lc (ac.eval (.tmp 28))
      obtain ⟨a6, k6, hsl, -, -⟩ := ho6.sums.slice
      rw [hsl] at e28 hic hbb
      have hstore := store_sumsl (x := a6) (n := (P ++ [D]).length) (c := k6) ((cell_of c6 0).trans rfl) (fz_of c6 0)
      exact rop_storeG _ _ _ rfl e3 hsl hstore (wanted_none rfl) (hK0 _ _ (GLy.own (by decide)) ⟨fun h => absurd h (by decide), fun h => absurd h (by decide), fun _ => ⟨hic, hbb⟩⟩ trivial)
    · intro ac w' hF hPh hT
      rw [hF.setsG [24, 25, 26, 27, 28] (by kernel_rfl)]
      simp only [List.foldl_cons, List.foldl_nil, List.setIfInBounds_toArray, List.set_cons_succ, List.set_cons_zero]
      generalize ac.eval (.tmp 24) = u24
      generalize ac.eval (.tmp 25) = u25
      generalize ac.eval (.tmp 26) = u26
      generalize ac.eval (.tmp 27) = u27
      generalize ac.eval (.tmp 28) = u28
      clear  hT hF ac
      obtain ⟨hIe, hbe⟩ := hPh.2.2 rfl
      have HIe := Lib.hid hIe
      have hbf := B3.out.trans hbe
      clear hPh hIe
      go_wp2
      first | go_end0 | refine bodyPost_ret (results_none rfl _ _ _) rfl ?_
      exact ⟨rfl, by rw [HRES.out]; exact HIe.out, hbf⟩
  · have hmk' : ¬ (m : Int) < (k : Int) := by omega
    obtain ⟨D, hD⟩ : ∃ D, D = Tree.root (l.take k) := ⟨_, rfl⟩
    have HDl : Hid (D.length = 32) := Lib.hid (by rw [hD]; exact Tree.root_length _ (ho.take k))
    obtain ⟨P1, hP1⟩ : ∃ P1, P1 = P ++ Tree.path (l.drop k) (m - k) := ⟨_, rfl⟩
    have hres : P ++ Tree.path l m = P1 ++ [D] := by rw [hpr hmk, hP1, hD, List.append_assoc]
    have HPl : Hid (P1.length ≤ 1000000) := Lib.hid (by rw [hP1, List.length_append]; have := hpn (l.drop k) (m - k); omega)
    have HRES := Lib.hid hres
    have hsub := IntWalk.i64_in ((m : Int) - (k : Int)) (by omega)
    have HIH : Hid (∀ u : World, Below w.heap.size w u → Calls Tryd.prog 51 #[.slice (cutS va k n) (n - k) (n - k), .int .i64 ((m : Int) - (k : Int)), .pointer (some ⟨ci, 0, none⟩), .pointer (some ⟨cp, 0, none⟩)] u fun e w' => e = .returned (.tuple #[]) ∧ IC B cp ci 95 (.func (.func 51) #[] #[.pointer (some ⟨ci, 0, none⟩), .pointer (some ⟨cp, 0, none⟩)]) P1 w' ∧ Below B u w') := Lib.hid fun u hu => by
      rw [hP1, ← Int.ofNat_sub (by omega)]
      exact ih (n - k) (by omega) (l.drop k) (m - k) P _ u l2 (by omega) (by omega) (HST.out.keep (hu.mono hsz)) (HI.out.old hu) (HK.out.old hu)
    have HRt0 : Hid (∀ u : World, Below B w u → Calls Tryd.prog 53 #[.slice va k k] u fun e w' => e = .returned (sumV D) ∧ Below u.heap.size u w') := Lib.hid fun u hu => by
      rw [hD]
      exact leafRoot_any _ (l.take k) _ u rfl (by omega) (HSH.out.keep hu).1 (HK.out.oldB hu hB0)
    have HSZ := Lib.hid hsz
    clear hcut hI hK sh st ho hD hP1 hres hpl hpr hpn ih l1 l2 hk hlen h1 hv hP hsz
    go_enter Tryd.func51, Tryd.ntmps51
    go_upto_region 6 with (first
      | (go_at_call 52; ((with_reducible refine (HCUT.out _).mono ?_); rintro e w1 ⟨rfl, b1⟩; have hc1 : w1.cell? ⟨ci, 0, none⟩ = some (.func (.func 51) #[] #[.pointer (some ⟨ci, 0, none⟩), .pointer (some ⟨cp, 0, none⟩)]) := (cell_of (HI.out.old b1).fn 0).trans rfl))
      | (go_at_call 51; ((with_reducible refine (HIH.out _ b1).mono ?_); rintro e w2 ⟨rfl, hI2, b2⟩)))
    have b3 : Below B w w2 := (b1.mono HSZ.out).trans b2
    obtain ⟨W, hW⟩ : ∃ W, W = w2 := ⟨_, rfl⟩
    subst hW
    have HI := Lib.hid hI2
    have HRt : Hid (∀ u : World, Below W.heap.size W u → Calls Tryd.prog 53 #[.slice va k k] u fun e w' => e = .returned (sumV D) ∧ Below u.heap.size u w') := Lib.hid fun u hu => HRt0.out u (b3.trans (hu.mono hI2.size))
    have B3 := Lib.hid b3
    obtain ⟨P, hPP⟩ : ∃ P, P = P1 := ⟨_, rfl⟩
    subst hPP
    clear hI2 b3 b1 b2 hc1
    obtain ⟨v0, hv0, ho0⟩ := HI.out.row
    obtain ⟨a0, c0, rfl, -, -⟩ := ho0.sums.slice
    obtain ⟨n0, hn0⟩ : ∃ n0, n0 = List.length P := ⟨_, rfl⟩
    rw [← hn0] at hv0
    have HC := Lib.hid hv0
    have hcpW := HI.out.lt.1
    clear hv0 ho0 hn0

    try simp only [Act.put]
    refine wp_region_ph (Lx := GLy 3) [RXP.is (.slice a0 n0 c0), RXP.is (.slice va k k), RXP.is (sumV D), RXP.tillY (fun v w => Sums w v [D]) (fun _ _ _ h k => h.old k), RXP.atY (fun v w => OwnS B w v (P ++ [D])), RXP.any] [2, 3, 4, 5] (fun k w' => (k < 3 → Below W.heap.size W w') ∧ (k = 3 → Below B W w' ∧ w'.heap[cp]? = some (.cells #[.slice a0 n0 c0] 27 (0, 0)) ∧ w'.heap[ci]? = some (.cells #[(.func (.func 51) #[] #[.pointer (some ⟨ci, 0, none⟩), .pointer (some ⟨cp, 0, none⟩)])] 95 (0, 0))) ∧ (k = 4 → IC B cp ci 95 (.func (.func 51) #[] #[.pointer (some ⟨ci, 0, none⟩), .pointer (some ⟨cp, 0, none⟩)]) (P ++ [D]) w' ∧ Below B W w')) (by kernel_rfl) (by kernel_rfl) (by kernel_rfl) (by kernel_rfl) (by kernel_rfl) (⟨fun _ => below_drew (Below.refl _ _), fun h => absurd h (by decide), fun h => absurd h (by decide)⟩) ⟨?_, ?_, ?_, ?_, ?_, ?_, trivial⟩ ?_
    · intro ac w' ph hF hPh hlt hP hU K hK0
      have hph : ph ≤ 2 := (hlt 2 4 rfl).2 (by kernel_rfl)
      have e3 : ac.eval (.tmp 3) = .pointer (some ⟨cp, 0, none⟩) := hF.at 3 (by kernel_rfl)
      exact rop_ld _ _ rfl e3 (load_sumslP ((cell_of (((hPh.1 (by omega)).block _ hcpW).trans HC.out) 0).trans rfl)) (wanted_none rfl) (hK0 _ _ GLy.same hPh rfl)
    · intro ac w' ph hF hPh hlt hP hU K hK0
      have e6 : ac.eval (.tmp 6) = .slice va k k := hF.at 6 (by kernel_rfl)
      exact rop_move _ rfl e6 (wanted_none rfl) (hK0 _ _ GLy.same hPh rfl)
    · intro ac w' ph hF hPh hlt hP hU K hK0
      obtain rfl : ph = 0 := (hlt 0 2 rfl).1 rfl
      have e37 : ac.eval (.tmp 37) = .slice va k k := hP 1 (by kernel_rfl)
      have hB : Below W.heap.size W w' := hPh.1 (by omega)
      refine rop_call 53 _ _ rfl #[.slice va k k] (by simp [e37]) (by kernel_rfl) (wanted_none rfl) ?_
      refine (HRt.out w' hB).mono ?_
      rintro e w2 ⟨rfl, hb⟩
      exact ⟨_, rfl, hK0 _ _ (GLy.old hb) ⟨fun _ => below_step hB (Nat.le_refl _) hb, fun h => absurd h (by decide), fun h => absurd h (by decide)⟩ rfl⟩
    · intro ac w' ph hF hPh hlt hP hU K hK0
      obtain rfl : ph = 1 := (hlt 1 3 rfl).1 rfl
      have e38 : ac.eval (.tmp 38) = sumV D := hP 2 (by kernel_rfl)
      have hB : Below W.heap.size W w' := hPh.1 (by omega)
      exact rop_bslG _ _ _ rfl #[(0, sumV D)] (by simp [e38]) (build_sum1 D HDl.out w') (wanted_none rfl) (hK0 _ _ (GLy.old ((Below.refl _ _).alloc (Nat.le_refl _) _)) ⟨fun _ => below_step hB (Nat.le_refl _) ((Below.refl w'.heap.size w').alloc (Nat.le_refl _) (.cells (D.map u8V).toArray 33)), fun h => absurd h (by decide), fun h => absurd h (by decide)⟩ (fun _ => Sums.one w' D HDl.out))
    · intro ac w' ph hF hPh hlt hP hU K hK0
      obtain rfl : ph = 2 := (hlt 2 4 rfl).1 rfl
      have e36 : ac.eval (.tmp 36) = .slice a0 n0 c0 := hP 0 (by kernel_rfl)
      have e39 : 2 < 3 → Sums w' (ac.eval (.tmp 39)) [D] := hP 3 (by kernel_rfl)
      have hB : Below W.heap.size W w' := hPh.1 (by omega)
      obtain ⟨v6, w6, hr6, ho6, b6, c6, f6⟩ := IC.app HI.out hTn HC.out hB (e39 (by decide)) HPl.out 27
      exact rop_appendG _ _ _ rfl e36 rfl hr6 (wanted_none rfl) (hK0 _ _ (GLy.own (by decide)) ⟨fun h => absurd h (by decide), fun _ => ⟨b6, c6, f6⟩, fun h => absurd h (by decide)⟩ ⟨Nat.le_refl _, fun _ => ho6⟩)
    · intro ac w' ph hF hPh hlt hP hU K hK0
      obtain rfl : ph = 3 := (hlt 3 5 rfl).1 rfl
      have e3 : ac.eval (.tmp 3) = .pointer (some ⟨cp, 0, none⟩) := hF.at 3 (by kernel_rfl)
      have e40 : 3 ≤ 3 ∧ (3 = 3 → OwnS B w' (ac.eval (.tmp 40)) (P ++ [D])) := hP 4 (by kernel_rfl)
      obtain ⟨b6, c6, f6⟩ := hPh.2.1 rfl
      have ho6 := e40.2 rfl
      have hic := IC.put ho6 c6 f6 HI.out.lc HI.out.li HI.out.ne
      have hbb := b6.setCell (p := ⟨cp, 0, none⟩) HI.out.lc (ac.eval (.tmp 40))
      obtain ⟨a6, k6, hsl, -, -⟩ := ho6.sums.slice
      rw [hsl] at e40 hic hbb
      have hstore := store_sumsl (x := a6) (n := (P ++ [D]).length) (c := k6) ((cell_of c6 0).trans rfl) (fz_of c6 0)
      exact rop_storeG _ _ _ rfl e3 hsl hstore (wanted_none rfl) (hK0 _ _ (GLy.own (by decide)) ⟨fun h => absurd h (by decide), fun h => absurd h (by decide), fun _ => ⟨hic, hbb⟩⟩ trivial)
    · intro ac w' hF hPh hT
      rw [hF.setsG [36, 37, 38, 39, 40] (by kernel_rfl)]
      simp only [List.foldl_cons, List.foldl_nil, List.setIfInBounds_toArray, List.set_cons_succ, List.set_cons_zero]
      generalize ac.eval (.tmp 36) = u36
      generalize ac.eval (.tmp 37) = u37
      generalize ac.eval (.tmp 38) = u38
      generalize ac.eval (.tmp 39) = u39
      generalize ac.eval (.tmp 40) = u40
      clear  hT hF ac
      obtain ⟨hIe, hbe⟩ := hPh.2.2 rfl
      have HIe := Lib.hid hIe
      have hbf := B3.out.trans hbe
      clear hPh hIe
      go_wp2
      first | go_end0 | refine bodyPost_ret (results_none rfl _ _ _) rfl ?_
      exact ⟨rfl, by rw [HRES.out]; exact HIe.out, hbf⟩

/-- The path of m, as it is told; nothing, if there is none. -/
def pathZ (l : Hs) (m : Int) : Hs × Bool := if 0 ≤ m ∧ m < (l.length : Int) then (Tree.path l m.toNat, true) else ([], false)
theorem pathZ_t (l : Hs) (m : Nat) (h : m < l.length) : pathZ l (m : Int) = (Tree.path l m, true) := if_pos ⟨by omega, by omega⟩
theorem pathZ_f (l : Hs) (m : Int) (h : ¬ (0 ≤ m ∧ m < (l.length : Int))) : pathZ l m = ([], false) := if_neg h
set_option maxHeartbeats 1600000 in
set_option maxRecDepth 100000 in
theorem path_any (v : Value) (l : Hs) (m : Int) (w : World) (hv : Sums w v l) (hn : l.length ≤ 100000) (hK : KT w) :
    Calls Tryd.prog 34 #[v, .int .i64 m] w fun e w' => ∃ v', e = .returned (.tuple #[v', .bool (pathZ l m).2]) ∧ OwnS w.heap.size w' v' (pathZ l m).1 ∧ Below w.heap.size w w' := by
  obtain ⟨va, cap, rfl, hlc, hcap⟩ := hv.slice
  by_cases h : 0 ≤ m ∧ m < (l.length : Int)
  · obtain ⟨k, rfl⟩ := Int.eq_ofNat_of_zero_le h.1
    have hk : k < l.length := by omega
    rw [pathZ_t l k hk]
    obtain ⟨B, hB⟩ : ∃ B, B = w.heap.size := ⟨_, rfl⟩
    have hvB := hv.below
    rw [← hB] at hvB ⊢
    have hmf : ∀ (fn : Fn) (first cap : Array Value) (w : World), (Instr.makeFunc fn first cap).run Tryd.prog w = .ok (.func fn first cap) w := fun _ _ _ _ => rfl
    have h0 := h.1
    have h1 : ¬ (l.length : Int) ≤ (k : Int) := by omega
    have HV := Lib.hid hvB
    have HB := Lib.hid hB
    clear hv h hvB hB
    obtain ⟨ci, hci⟩ : ∃ ci, ci = w.heap.size + 1 := ⟨_, rfl⟩
    obtain ⟨cp, hcp⟩ : ∃ cp, cp = w.heap.size := ⟨_, rfl⟩
    obtain ⟨W, hW⟩ : ∃ W, W = (w.alloc (.cells #[.slice none 0 0] 27)).alloc (.cells #[(.func (.func 51) #[] #[.pointer (some ⟨ci, 0, none⟩), .pointer (some ⟨cp, 0, none⟩)])] 95) := ⟨_, rfl⟩
    have hcpW : W.heap[cp]? = some (.cells #[.slice none 0 0] 27 (0, 0)) := by
      rw [hW, hcp]
      exact (((Below.refl (w.alloc (.cells #[.slice none 0 0] 27)).heap.size _).alloc (Nat.le_refl _) _).block w.heap.size (by simp)).trans (heap_alloc_last w _)
    have hciW : W.heap[ci]? = some (.cells #[(.func (.func 51) #[] #[.pointer (some ⟨ci, 0, none⟩), .pointer (some ⟨cp, 0, none⟩)])] 95 (0, 0)) := by
      have := heap_alloc_last (w.alloc (.cells #[.slice none 0 0] 27)) (.cells #[(.func (.func 51) #[] #[.pointer (some ⟨ci, 0, none⟩), .pointer (some ⟨cp, 0, none⟩)])] 95)
      rwa [World.size_alloc, ← hci, ← hW] at this
    have hic : IC B cp ci 95 (.func (.func 51) #[] #[.pointer (some ⟨ci, 0, none⟩), .pointer (some ⟨cp, 0, none⟩)]) [] W := ⟨⟨.slice none 0 0, hcpW, OwnS.nil _ _⟩, hciW, by rw [HB.out]; omega, by rw [HB.out]; omega, by omega⟩
    have hbW : Below B w W := by rw [hW, HB.out]; exact ((Below.refl _ _).alloc (Nat.le_refl _) _).alloc (by simp) _
    have hin := into_any B cp ci (by rw [HB.out]; exact hK.pos) l.length l k [] (.slice va l.length cap) W rfl (by simp; omega) hk (HV.out.keep hbW) hic (hK.oldB hbW (by rw [HB.out]; exact hK.pos))
    rw [List.nil_append] at hin
    have hcW : W.cell? ⟨ci, 0, none⟩ = some ((.func (.func 51) #[] #[.pointer (some ⟨ci, 0, none⟩), .pointer (some ⟨cp, 0, none⟩)])) := (cell_of hic.fn 0).trans rfl
    have HIN := Lib.hid hin
    have HBW := Lib.hid hbW
    have HW := Lib.hid hW
    have Hci := Lib.hid hci
    have Hcp := Lib.hid hcp
    clear hin hic hbW hciW hcpW hW hci hcp hk
    go_enter Tryd.func34, Tryd.ntmps34
    go_upto_region 6 with (fail)
    rw [← Hci.out, ← Hcp.out, ← HW.out]
    clear HW
    go_wp2_with (go_at_call 51; ((with_reducible refine HIN.out.mono ?_); rintro e w3 ⟨rfl, hI3, b3⟩; obtain ⟨v3, hv3, ho3⟩ := hI3.row; obtain ⟨a3, c3, rfl, -, -⟩ := ho3.sums.slice; have hc3 : w3.cell? ⟨cp, 0, none⟩ = some (.slice a3 (Tree.path l k).length c3) := (cell_of hv3 0).trans rfl; have HO3 := Lib.hid ho3; have b4 := HBW.out.trans b3; clear hI3 hv3 ho3))
    go_ret2
    exact ⟨_, rfl, HO3.out, b4⟩
  · rw [pathZ_f l m h]
    have hh : m < 0 ∨ (0 ≤ m ∧ (l.length : Int) ≤ m) := by omega
    clear hv h
    rcases hh with h | ⟨h, h1⟩ <;>
    · go_enter Tryd.func34, Tryd.ntmps34
      go_wp2
      go_ret2
      exact ⟨_, rfl, OwnS.nil _ _, Below.refl _ _⟩

end Go.Proofs.YtollcdalokhjaaaDoor
/-! ## Package path: the closure of Links, and Links. -/
namespace Go.Proofs.YtollcdalokhjaaaDoor
open Go.RowKit

/-- The links from m on, as it is told; nothing, if there is none. -/
def linksZ (l : Hs) (m : Int) : Hs × Bool := if 1 ≤ m ∧ m ≤ (l.length : Int) then (Tree.links l m.toNat true, true) else ([], false)
theorem linksZ_t (l : Hs) (m : Nat) (h1 : 1 ≤ m) (h : m ≤ l.length) : linksZ l (m : Int) = (Tree.links l m true, true) := if_pos ⟨by omega, by omega⟩
theorem linksZ_f (l : Hs) (m : Int) (h : ¬ (1 ≤ m ∧ m ≤ (l.length : Int))) : linksZ l m = ([], false) := if_neg h
end Go.Proofs.YtollcdalokhjaaaDoor
/-! ## The document's own path, Path, links, Links (scriniumref10). -/
namespace Go.Proofs.YtollcdalokhjaaaDoor
open Go.RowKit

theorem sub_iG (a b : Int) (h : IntKind.i64.wrap (a - b) = a - b) (w : World) : (binOp .sub 3 (.int .i64 a) (.int .i64 b)).run Tryd.prog w = .ok (.int .i64 (a - b)) w := by
  go_simp
theorem OwnS.lit {B : Nat} (w : World) (x : List UInt8) (h : x.length = 32) (hB : B ≤ w.heap.size) : OwnS B (w.alloc (.cells (x.map u8V).toArray 33)) (.slice (some ⟨w.heap.size, 0, none⟩) 1 1) [x] := by
  refine ⟨?_, all32.one h⟩
  have := World.ownsRow_lit (e := 33) (size := 32) w (x.map u8V).toArray 1 hB (by decide) (by simp [h])
  rw [sc_one']
  simpa using this
end Go.Proofs.YtollcdalokhjaaaDoor
/-! ## The statements' own helpers awake and few (scriniumlaw10); what laws of paths want besides. -/
namespace Go.Proofs.YtollcdalokhjaaaDoor
open Go.RowKit

/-- A new variable that is a hash, as it is stored to. -/
theorem var_sum (w : World) (x : List UInt8) (h : x.length = 32) : ((w.alloc zSum).setCells w.heap.size 0 (x.map u8V)).heap[w.heap.size]? = some (.cells (x.map u8V).toArray 33 (0, 0)) ∧ Below w.heap.size w ((w.alloc zSum).setCells w.heap.size 0 (x.map u8V)) :=
  ⟨heap_setCells_all w _ _ (by simp [h]), below_setCells (Nat.le_refl _) _ _ _ ((Below.refl _ _).alloc (Nat.le_refl _) _)⟩
theorem range_var {w : World} {q : Nat} {x : List UInt8} (h : w.heap[q]? = some (.cells (x.map u8V).toArray 33 (0, 0))) : w.rangeAt q 0 (x.map u8V) := fun j v hv => by
  rw [Nat.zero_add, cell_of h]; simpa using hv
theorem split3 : Tree.split 3 = 2 := by decide
theorem split2 : Tree.split 2 = 1 := by decide
theorem root2 (A B : List UInt8) : Tree.root [A, B] = Tree.node A B := by
  rw [Tree.root_go _ (by simp)]
  rfl
theorem path3_2 (A B C : List UInt8) : Tree.path [A, B, C] 2 = [Tree.node A B] := by
  rw [Tree.path_right (l := [A, B, C]) (by simp) (by rw [show [A, B, C].length = 3 from rfl, split3]; omega), show [A, B, C].length = 3 from rfl, split3, Tree.path_small (by simp)]
  simp [root2]
theorem path3_0 (A B C : List UInt8) : Tree.path [A, B, C] 0 = [B, C] := by
  rw [Tree.path_left (l := [A, B, C]) (by simp) (by rw [show [A, B, C].length = 3 from rfl, split3]; omega), show [A, B, C].length = 3 from rfl, split3, show [A, B, C].take 2 = [A, B] from rfl,
    Tree.path_left (l := [A, B]) (by simp) (by rw [show [A, B].length = 2 from rfl, split2]; omega), show [A, B].length = 2 from rfl, split2, Tree.path_small (by simp)]
  rfl
theorem links3_2 (A B C : List UInt8) : Tree.links [A, B, C] 2 true = [C] := by
  rw [Tree.links_left (l := [A, B, C]) (by omega) (by simp) (by rw [show [A, B, C].length = 3 from rfl, split3]; omega), show [A, B, C].length = 3 from rfl, split3, show [A, B, C].take 2 = [A, B] from rfl,
    show (2 : Nat) = [A, B].length from rfl, Tree.links_end (by simp)]
  rfl
theorem links3_3 (A B C : List UInt8) : Tree.links [A, B, C] 3 true = [] := by
  have := Tree.links_end (l := [A, B, C]) (b := true) (by simp)
  exact this
end Go.Proofs.YtollcdalokhjaaaDoor
/-! ## What the laws of layer path want besides: a place taken from any number, booleans read and compared, hashes' rows at a place. -/
namespace Go.Proofs.YtollcdalokhjaaaDoor
open Go.RowKit

/-- The place that a law takes from any number: the rest's amount. -/
theorem place_of (a : Int) (n : Nat) (h : 0 < n) : ∃ r : Int, a.tmod (n : Int) = r ∧ ∃ m : Nat, m < n ∧ ((r < 0 ∧ r = -(m : Int)) ∨ (¬ r < 0 ∧ r = (m : Int))) := by
  have h1 := Int.lt_tmod_of_pos a (show (0 : Int) < (n : Int) by omega)
  have h2 := Int.tmod_lt_of_pos a (show (0 : Int) < (n : Int) by omega)
  refine ⟨_, rfl, (a.tmod (n : Int)).natAbs, by omega, ?_⟩
  by_cases hr : a.tmod (n : Int) < 0
  · exact .inl ⟨hr, by omega⟩
  · exact .inr ⟨hr, by omega⟩
theorem load_boolP {b o : Nat} {x : Bool} {w : World} (h0 : w.cell? ⟨b, o, none⟩ = some (.bool x)) : (Instr.loadAt 4 (.pointer (some ⟨b, o, none⟩))).run Tryd.prog w = .ok (.bool x) w := by
  go_simp
theorem neq_bool_same (x : Bool) (w : World) : (binOp .neq 4 (.bool x) (.bool x)).run Tryd.prog w = .ok (.bool false) w := by cases x <;> go_simp
theorem add_iG (a b : Int) (h : IntKind.i64.wrap (a + b) = a + b) (w : World) : (binOp .add 3 (.int .i64 a) (.int .i64 b)).run Tryd.prog w = .ok (.int .i64 (a + b)) w := by
  go_simp
/-- A slice of so many, wherever it lies. -/
def RT.slen (n : Nat) : RT := ⟨fun v _ => ∃ a c, v = .slice a n c, fun _ _ _ h _ => h⟩
section
variable {ops : Array Oper} {Q : Exit → Act → World → Prop} {a : Act} {w w' : World} {K : Act → World → Prop} {o : Oper}
theorem rop_convP (t u : TypeId) (x : Operand) (hop : o.op = .convert t u x) {v r : Value} (hx : a.eval x = v) (hr : (convert t u v).run Tryd.prog w = .ok r w) (hw : Region.wanted o (yielded ops a.tmps) = true) (h : K (a.put o.dst r) w) :
    if Region.wanted o (yielded ops a.tmps) = true then Oper.wp Tryd.prog o a w K Q else K (a.put o.dst undef) w :=
  rop_v hw (by simp [execOp, hop, hx, hr]) h
end
theorem pconv_u64 (i : Nat) (h : i < 64) (w : World) : (convert 3 109 (.int .i64 (i : Int))).run Tryd.prog w = .ok (.int .u64 (i : Int)) w := by
  have hw := IntWalk.u64_in (i : Int) (by omega)
  go_simp
theorem shr_nat (m i : Nat) (hm : m < 4611686018427387904) (hi : i < 64) (w : World) : (binOp .shr 3 (.int .i64 (m : Int)) (.int .u64 (i : Int))).run Tryd.prog w = .ok (.int .i64 ((m / 2 ^ i : Nat) : Int)) w := by
  have h1 : ((m / 2 ^ i : Nat) : Int) = (m : Int) / 2 ^ i := by simp
  have h2 : m / 2 ^ i ≤ m := Nat.div_le_self _ _
  generalize m / 2 ^ i = q at h1 h2 ⊢
  have hw := IntWalk.i64_in ((m : Int) / 2 ^ i) (by rw [← h1]; omega)
  rw [h1]
  go_simp
theorem and_one (m : Nat) (w : World) : (binOp .and 3 (.int .i64 (m : Int)) (.int .i64 1)).run Tryd.prog w = .ok (.int .i64 ((m % 2 : Nat) : Int)) w := by
  have hb : bits .and .i64 (m : Int) 1 = ((m % 2 : Nat) : Int) := by rw [and_maskL (m : Int) 1 1 (by decide) rfl]; rfl
  go_simp
theorem eql_one (m : Nat) (w : World) : (binOp .eql 3 (.int .i64 (m : Int)) (.int .i64 1)).run Tryd.prog w = .ok (.bool (decide (m = 1))) w := by
  have h : decide ((m : Int) = 1) = decide (m = 1) := decide_eq_decide.2 (by omega)
  exact eql_iG (m : Int) 1 _ h w
theorem guard_shr (t : TypeId) (x y : Operand) (a b : Int) (k : IntKind) (w : World) : (eqGuard .shr t x y (.int .i64 a) (.int k b)).run Tryd.prog w = .ok () w := by
  unfold eqGuard; simp
theorem long_lt (m n : Nat) (h : n ≤ 20) : Tree.long m n ≤ 5 := Tree.long_le 5 m n (Nat.le_trans h (by decide))
end Go.Proofs.YtollcdalokhjaaaDoor
