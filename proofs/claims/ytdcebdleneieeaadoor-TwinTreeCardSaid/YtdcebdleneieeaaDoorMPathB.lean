/-
  Several texts in one (PathVar, PathInto, PathLinks, RPath, PathAwake, PathLaw).
-/
import Derived.Test.YtdcebdleneieeaaDoorMPathA
import Derived.Test.YtdcebdleneieeaaDoorMLeafB
import Derived.Deep.DeepCutAuto
import Derived.Laws.EntriesVeiled
import Derived.Test.YtdcebdleneieeaaDoorMLeafL
/-! ## A variable that holds a row of hashes, and one that holds the closure that puts to it: what lies in memory, what an append does. -/
namespace Go.Proofs.YtdcebdleneieeaaDoor
open Go.RowKit

theorem KT.oldB {B : Nat} {w w' : World} (hK : KT w) (h : Below B w w') (hB : 0 < B) : KT w' := fun i hi => (h.cell (by exact hB)).trans (hK i hi)
/-- Block cp is a variable that has the row P, which is the call's own; block ci is one that has the closure f. -/
structure IC (B cp ci : Nat) (T : TypeId) (f : Value) (P : Hs) (w : World) : Prop where
  row : ∃ v, w.heap[cp]? = some (.cells #[v] 26 (0, 0)) ∧ OwnS B w v P
  fn : w.heap[ci]? = some (.cells #[f] T (0, 0))
  lc : B ≤ cp
  li : B ≤ ci
  ne : cp ≠ ci
theorem IC.lt {B cp ci : Nat} {T : TypeId} {f : Value} {P : Hs} {w : World} (h : IC B cp ci T f P w) : cp < w.heap.size ∧ ci < w.heap.size := by
  obtain ⟨v, h1, _⟩ := h.row
  exact ⟨(Array.getElem?_eq_some_iff.1 h1).1, (Array.getElem?_eq_some_iff.1 h.fn).1⟩
theorem IC.size {B cp ci : Nat} {T : TypeId} {f : Value} {P : Hs} {w : World} (h : IC B cp ci T f P w) : B ≤ w.heap.size := by have := h.lt; have := h.lc; omega
theorem IC.old {B cp ci : Nat} {T : TypeId} {f : Value} {P : Hs} {w w' : World} (h : IC B cp ci T f P w) (hb : Below w.heap.size w w') : IC B cp ci T f P w' := by
  obtain ⟨v, h1, h2⟩ := h.row
  have hl := h.lt
  exact ⟨⟨v, (hb.block _ hl.1).trans h1, h2.kept hb⟩, (hb.block _ hl.2).trans h.fn, h.lc, h.li, h.ne⟩
theorem OwnS.typed {B : Nat} {w : World} {v : Value} {l : Hs} (h : OwnS B w v l) {g : Nat} (hg : v.ownBlock = some g) : ∃ cur, w.heap[g]? = some (.cells cur 24 (0, 0)) := by
  rcases h.1.2 with ⟨rfl, _⟩ | ⟨g', cap, cur, rfl, _, hh, _⟩
  · cases hg
  · injection hg with hg
    subst hg
    exact ⟨cur, hh⟩
theorem OwnS.not {B : Nat} {w : World} {v : Value} {l : Hs} (h : OwnS B w v l) {c : Nat} {x : Array Value} {T : TypeId} (hc : w.heap[c]? = some (.cells x T (0, 0))) (hT : T ≠ 24) : v.ownBlock ≠ some c := by
  intro e
  obtain ⟨cur, hh⟩ := h.typed e
  rw [hc] at hh
  injection hh with hh
  injection hh with _ hh _
  exact hT hh
theorem ne_sums : 26 ≠ 24 := by decide
/-- The append: the variables stay as they are. -/
theorem IC.app {B cp ci : Nat} {T : TypeId} {f : Value} {P : Hs} {w : World} (h : IC B cp ci T f P w) (hT : T ≠ 24) {v0 : Value} (hv : w.heap[cp]? = some (.cells #[v0] 26 (0, 0))) {w1 : World} (hb : Below w.heap.size w w1) {x : Value} {D : List UInt8} (hx : Sums w1 x [D]) (hl : P.length ≤ 1000000) (ty : TypeId) :
    ∃ v6 w6, (Builtin.append_ #[26, 26] ty #[v0, x]).run Tryd.prog w1 = .ok v6 w6 ∧ OwnS B w6 v6 (P ++ [D]) ∧ Below B w w6 ∧ w6.heap[cp]? = some (.cells #[v0] 26 (0, 0)) ∧ w6.heap[ci]? = some (.cells #[f] T (0, 0)) := by
  obtain ⟨v, h1, h2⟩ := h.row
  rw [hv] at h1
  injection h1 with h1
  injection h1 with h1 _ _
  obtain rfl : v0 = v := by simpa using h1
  have hl' := h.lt
  have hs := hb.size
  have hlc := h.lc
  have ho1 := h2.kept hb
  obtain ⟨v6, w6, hr, ho, bb, hg, _⟩ := sappend_own' (B := B) ty ho1 hx (by omega) (by simp; omega)
  have c1 := (hb.block _ hl'.1).trans hv
  have c2 := (hb.block _ hl'.2).trans h.fn
  exact ⟨v6, w6, hr, ho, (hb.mono (by omega)).trans bb, (hg.block _ (by omega) (fun e => ho1.not c1 ne_sums e.symm)).trans c1, (hg.block _ (by omega) (fun e => ho1.not c2 hT e.symm)).trans c2⟩
/-- The store. -/
theorem IC.put {B cp ci : Nat} {T : TypeId} {f : Value} {Q : Hs} {w : World} {v v0 : Value} (ho : OwnS B w v Q) (hc : w.heap[cp]? = some (.cells #[v0] 26 (0, 0))) (hf : w.heap[ci]? = some (.cells #[f] T (0, 0))) (lc : B ≤ cp) (li : B ≤ ci) (ne : cp ≠ ci) : IC B cp ci T f Q (w.setCell ⟨cp, 0, none⟩ v) := by
  refine ⟨⟨v, ?_, ho.kept' fun g e => heap_far (fun e' => ho.not hc ne_sums (by rw [e, e'])) v⟩, (heap_far (Ne.symm ne) v).trans hf, lc, li, ne⟩
  have := heap_set (i := 0) hc v
  simpa using this
theorem store_sumsl {b o : Nat} {x : Option Addr} {n c : Nat} {u : Value} {w : World} (h0 : w.cell? ⟨b, o, none⟩ = some u) (h1 : w.frozen? ⟨b, o, none⟩ = false) : (Instr.storeAt 26 (.pointer (some ⟨b, o, none⟩)) (.slice x n c)).run Tryd.prog w = .ok () (w.setCell ⟨b, o, none⟩ (.slice x n c)) := by
  go_simp
theorem load_sumslP {b o : Nat} {x : Option Addr} {n c : Nat} {w : World} (h0 : w.cell? ⟨b, o, none⟩ = some (.slice x n c)) : (Instr.loadAt 26 (.pointer (some ⟨b, o, none⟩))).run Tryd.prog w = .ok (.slice x n c) w := by
  go_simp
/-- How the world goes on, where from effect N on blocks of the call's own may turn. -/
def GLy (N : Nat) (k k' : Nat) (w w' : World) : Prop := (k = k' ∧ w = w') ∨ (k' = k + 1 ∧ (k' < N → Below w.heap.size w w'))
theorem GLy.same {N k : Nat} {w : World} : GLy N k k w w := .inl ⟨rfl, rfl⟩
theorem GLy.old {N k : Nat} {w w' : World} (hb : Below w.heap.size w w') : GLy N k (k + 1) w w' := .inr ⟨rfl, fun _ => hb⟩
theorem GLy.own {N k : Nat} {w w' : World} (h : N ≤ k + 1) : GLy N k (k + 1) w w' := .inr ⟨rfl, fun h' => absurd h' (by omega)⟩
/-- What lasts till blocks of the call's own turn. -/
def RXP.tillY {N : Nat} (p : Value → World → Prop) (hp : ∀ v w w', p v w → Below w.heap.size w w' → p v w') : RXP (GLy N) := ⟨fun k v w => k < N → p v w, fun v w w' k k' h hx hk => by
  rcases hx with ⟨rfl, rfl⟩ | ⟨rfl, hb⟩
  · exact h hk
  · exact hp v w w' (h (by omega)) (hb hk)⟩
/-- What is so right behind effect N. -/
def RXP.atY {N : Nat} (p : Value → World → Prop) : RXP (GLy N) := ⟨fun k v w => N ≤ k ∧ (k = N → p v w), fun v w w' k k' h hx => by
  rcases hx with ⟨rfl, rfl⟩ | ⟨rfl, hb⟩
  · exact h
  · exact ⟨by omega, fun e => by omega⟩⟩
end Go.Proofs.YtdcebdleneieeaaDoor
/-! ## Package path: the closure of Path, and Path. -/
namespace Go.Proofs.YtdcebdleneieeaaDoor
open Go.RowKit

/-- The path of m, as it is told; nothing, if there is none. -/
def pathZ (l : Hs) (m : Int) : Hs × Bool := if 0 ≤ m ∧ m < (l.length : Int) then (Tree.path l m.toNat, true) else ([], false)
theorem pathZ_t (l : Hs) (m : Nat) (h : m < l.length) : pathZ l (m : Int) = (Tree.path l m, true) := if_pos ⟨by omega, by omega⟩
theorem pathZ_f (l : Hs) (m : Int) (h : ¬ (0 ≤ m ∧ m < (l.length : Int))) : pathZ l m = ([], false) := if_neg h
end Go.Proofs.YtdcebdleneieeaaDoor
/-! ## Package path: the closure of Links, and Links. -/
namespace Go.Proofs.YtdcebdleneieeaaDoor
open Go.RowKit

/-- The links from m on, as it is told; nothing, if there is none. -/
def linksZ (l : Hs) (m : Int) : Hs × Bool := if 1 ≤ m ∧ m ≤ (l.length : Int) then (Tree.links l m.toNat true, true) else ([], false)
theorem linksZ_t (l : Hs) (m : Nat) (h1 : 1 ≤ m) (h : m ≤ l.length) : linksZ l (m : Int) = (Tree.links l m true, true) := if_pos ⟨by omega, by omega⟩
theorem linksZ_f (l : Hs) (m : Int) (h : ¬ (1 ≤ m ∧ m ≤ (l.length : Int))) : linksZ l m = ([], false) := if_neg h
end Go.Proofs.YtdcebdleneieeaaDoor
/-! ## The document's own path, Path, links, Links (scriniumref10). -/
namespace Go.Proofs.YtdcebdleneieeaaDoor
open Go.RowKit

theorem sub_iG (a b : Int) (h : IntKind.i64.wrap (a - b) = a - b) (w : World) : (binOp .sub 3 (.int .i64 a) (.int .i64 b)).run Tryd.prog w = .ok (.int .i64 (a - b)) w := by
  go_simp
theorem OwnS.lit {B : Nat} (w : World) (x : List UInt8) (h : x.length = 32) (hB : B ≤ w.heap.size) : OwnS B (w.alloc (.cells (x.map u8V).toArray 24)) (.slice (some ⟨w.heap.size, 0, none⟩) 1 1) [x] := by
  refine ⟨?_, all32.one h⟩
  have := World.ownsRow_lit (e := 24) (size := 32) w (x.map u8V).toArray 1 hB (by decide) (by simp [h])
  rw [sc_one']
  simpa using this
set_option maxHeartbeats 3200000 in
set_option maxRecDepth 100000 in
theorem rpath_any (n : Nat) : ∀ (l : Hs) (m : Nat) (v : Value) (w : World), l.length = n → n ≤ 100000 → m < l.length → Sums w v l →
    Calls Tryd.prog 44 #[v, .int .i64 (m : Int)] w fun e w' => ∃ v', e = .returned v' ∧ OwnS w.heap.size w' v' (Tree.path l m) ∧ Below w.heap.size w w' := by
  induction n using Nat.strongRecOn with
  | _ n ih =>
  intro l m v w hlen hP hm hv
  obtain ⟨va, cap, rfl, hlc, hcap⟩ := hv.slice
  by_cases h1 : l.length = 1
  · have hpe : Tree.path l m = [] := Tree.path_small (by omega)
    rw [hpe, h1]
    clear hpe hv ih h1 hm hlc
    go_enter Tryd.func44, Tryd.ntmps44
    go_wp2
    go_ret
    exact ⟨_, rfl, OwnS.nil _ _, Below.refl _ _⟩
  obtain ⟨k, hk⟩ : ∃ k, k = Tree.split l.length := ⟨_, rfl⟩
  have h2 : 2 ≤ l.length := by omega
  have hlt := Tree.split_lt h2
  have hps := Tree.split_pos h2
  have hsp := fun u => rleafSplit_any (l.length : Int) (by omega) (by omega) u
  rw [← hk] at hlt hps
  rw [Int.toNat_natCast, ← hk] at hsp
  have sh := hv.head k (by omega)
  have st := hv.tail k (by omega)
  have l1 : (l.take k).length = k := by rw [List.length_take]; omega
  have l2 : (l.drop k).length = l.length - k := List.length_drop
  have ho : all32 l := hv.ok
  have hpl : m < k → Tree.path l m = Tree.path (l.take k) m ++ [Tree.root (l.drop k)] := fun h => by rw [Tree.path_left h2 (by omega), hk]
  have hpr : ¬ m < k → Tree.path l m = Tree.path (l.drop k) (m - k) ++ [Tree.root (l.take k)] := fun h => by rw [Tree.path_right h2 (by omega), hk]
  have hpn : ∀ (l' : Hs) (m' : Nat), (Tree.path l' m').length ≤ l'.length := fun l' m' => by
    rw [Tree.path_length _ _ _ (Nat.le_refl _)]
    exact Tree.long_le _ _ _ (Nat.le_of_lt Nat.lt_two_pow_self)
  rw [hlen] at hsp st hlc hlt hm l2 h2 ⊢
  have h1' : ¬ (n : Int) = 1 := by omega
  have HSP : Hid (∀ u : World, Calls Tryd.prog 42 #[.int .i64 (n : Int)] u fun e w' => e = .returned (.int .i64 (k : Int)) ∧ u = w') := Lib.hid hsp
  have HSH := Lib.hid sh
  have HST := Lib.hid st
  have hkc : k ≤ cap := by omega
  have hkn : k ≤ n := by omega
  by_cases hmk : m < k
  · have hmk' : (m : Int) < (k : Int) := by omega
    obtain ⟨D, hD⟩ : ∃ D, D = Tree.root (l.drop k) := ⟨_, rfl⟩
    have HDl : Hid (D.length = 32) := Lib.hid (by rw [hD]; exact Tree.root_length _ (ho.drop k))
    obtain ⟨P1, hP1⟩ : ∃ P1, P1 = Tree.path (l.take k) m := ⟨_, rfl⟩
    have hres : Tree.path l m = P1 ++ [D] := by rw [hpl hmk, hP1, hD]
    have HPl : Hid (P1.length ≤ 1000000) := Lib.hid (by rw [hP1]; have := hpn (l.take k) m; omega)
    have HRES := Lib.hid hres
    have hsub := True.intro
    have HIH : Hid (∀ u : World, Below w.heap.size w u → Calls Tryd.prog 44 #[.slice va k cap, .int .i64 (m : Int)] u fun e w' => ∃ v', e = .returned v' ∧ OwnS u.heap.size w' v' P1 ∧ Below u.heap.size u w') := Lib.hid fun u hu => by
      rw [hP1]
      exact ih k hlt (l.take k) m _ u l1 (by omega) (by omega) (HSH.out.old hu)
    have HRt : Hid (∀ u : World, Below w.heap.size w u → Calls Tryd.prog 25 #[.slice (cutS va k cap) (n - k) (cap - k)] u fun e w' => e = .returned (sumV D) ∧ Below u.heap.size u w') := Lib.hid fun u hu => by
      rw [hD]
      exact rleafRoot_any _ (l.drop k) _ u rfl (by omega) (HST.out.old hu)
    clear sh st ho hD hP1 hres hpl hpr hpn ih l1 l2 hk hlen h1 hv hP hsp
    go_enter Tryd.func44, Tryd.ntmps44
    go_upto_region 5 with (go_at_call 42; ((with_reducible refine (HSP.out _).mono ?_); rintro e w1 ⟨rfl, rfl⟩))
    obtain ⟨W, hW⟩ : ∃ W, W = w := ⟨_, rfl⟩
    subst hW
    try simp only [Act.put]
    refine wp_region_ph (Lx := GLx 4) [RXP.is (.slice va n cap), RXP.is (.int .i64 (k : Int)), RXP.is (.slice va k cap), RXP.is (.int .i64 (m : Int)), RXP.till (fun v w => OwnS W.heap.size w v P1) (fun _ _ _ h k => h.kept k), RXP.is (.slice va n cap), RXP.is (.int .i64 (k : Int)), RXP.is (.slice (cutS va k cap) (n - k) (cap - k)), RXP.is (sumV D), RXP.till (fun v w => Sums w v [D]) (fun _ _ _ h k => h.old k), RXP.behind (fun v w => OwnS W.heap.size w v (P1 ++ [D])), RXP.behind (fun v w => OwnS W.heap.size w v (P1 ++ [D]))] [4, 8, 9, 10] (fun k w' => (k < 4 → Below W.heap.size W w') ∧ (k = 4 → Below W.heap.size W w')) (by kernel_rfl) (by kernel_rfl) (by kernel_rfl) (by kernel_rfl) (by kernel_rfl) (⟨fun _ => below_drew (Below.refl _ _), fun h => absurd h (by decide)⟩) ⟨?_, ?_, ?_, ?_, ?_, ?_, ?_, ?_, ?_, ?_, ?_, ?_, trivial⟩ ?_
    · intro ac w' ph hF hPh hlt hP hU K hK0
      have e0 : ac.eval (.tmp 0) = .slice va n cap := hF.at 0 (by kernel_rfl)
      exact rop_move _ rfl e0 (wanted_none rfl) (hK0 _ _ GLx.same hPh rfl)
    · intro ac w' ph hF hPh hlt hP hU K hK0
      have e5 : ac.eval (.tmp 5) = .int .i64 (k : Int) := hF.at 5 (by kernel_rfl)
      exact rop_move _ rfl e5 (wanted_none rfl) (hK0 _ _ GLx.same hPh rfl)
    · intro ac w' ph hF hPh hlt hP hU K hK0
      have e15 : ac.eval (.tmp 15) = .slice va n cap := hP 0 (by kernel_rfl)
      have e16 : ac.eval (.tmp 16) = .int .i64 (k : Int) := hP 1 (by kernel_rfl)
      exact rop_sliceG _ _ _ _ _ rfl e15 rfl (by simp [e16]) rfl (scut_h va n cap k hkc w') (wanted_none rfl) (hK0 _ _ GLx.same hPh rfl)
    · intro ac w' ph hF hPh hlt hP hU K hK0
      have e1 : ac.eval (.tmp 1) = .int .i64 (m : Int) := hF.at 1 (by kernel_rfl)
      exact rop_move _ rfl e1 (wanted_none rfl) (hK0 _ _ GLx.same hPh rfl)
    · intro ac w' ph hF hPh hlt hP hU K hK0
      obtain rfl : ph = 0 := (hlt 0 4 rfl).1 rfl
      have e17 : ac.eval (.tmp 17) = .slice va k cap := hP 2 (by kernel_rfl)
      have e18 : ac.eval (.tmp 18) = .int .i64 (m : Int) := hP 3 (by kernel_rfl)
      have hB : Below W.heap.size W w' := hPh.1 (by decide)
      refine rop_call 44 _ _ rfl #[.slice va k cap, .int .i64 (m : Int)] (by simp [e17, e18]) (by kernel_rfl) (wanted_none rfl) ?_
      refine (HIH.out w' hB).mono ?_
      rintro e w2 ⟨v2, rfl, ho2, hb⟩
      exact ⟨_, rfl, hK0 _ _ (GLx.old (by decide) hb) ⟨fun _ => below_step hB (Nat.le_refl _) hb, fun h => absurd h (by decide)⟩ (fun _ => ho2.lower hB.size)⟩
    · intro ac w' ph hF hPh hlt hP hU K hK0
      have e0 : ac.eval (.tmp 0) = .slice va n cap := hF.at 0 (by kernel_rfl)
      exact rop_move _ rfl e0 (wanted_none rfl) (hK0 _ _ GLx.same hPh rfl)
    · intro ac w' ph hF hPh hlt hP hU K hK0
      have e5 : ac.eval (.tmp 5) = .int .i64 (k : Int) := hF.at 5 (by kernel_rfl)
      exact rop_move _ rfl e5 (wanted_none rfl) (hK0 _ _ GLx.same hPh rfl)
    · intro ac w' ph hF hPh hlt hP hU K hK0
      have e20 : ac.eval (.tmp 20) = .slice va n cap := hP 5 (by kernel_rfl)
      have e21 : ac.eval (.tmp 21) = .int .i64 (k : Int) := hP 6 (by kernel_rfl)
      exact rop_sliceG _ _ _ _ _ rfl e20 (by simp [e21]) rfl rfl (scut_l va n cap k hkn w') (wanted_none rfl) (hK0 _ _ GLx.same hPh rfl)
    · intro ac w' ph hF hPh hlt hP hU K hK0
      obtain rfl : ph = 1 := (hlt 1 8 rfl).1 rfl
      have e22 : ac.eval (.tmp 22) = .slice (cutS va k cap) (n - k) (cap - k) := hP 7 (by kernel_rfl)
      have hB : Below W.heap.size W w' := hPh.1 (by decide)
      refine rop_call 25 _ _ rfl #[.slice (cutS va k cap) (n - k) (cap - k)] (by simp [e22]) (by kernel_rfl) (wanted_none rfl) ?_
      refine (HRt.out w' hB).mono ?_
      rintro e w2 ⟨rfl, hb⟩
      exact ⟨_, rfl, hK0 _ _ (GLx.old (by decide) hb) ⟨fun _ => below_step hB (Nat.le_refl _) hb, fun h => absurd h (by decide)⟩ rfl⟩
    · intro ac w' ph hF hPh hlt hP hU K hK0
      obtain rfl : ph = 2 := (hlt 2 9 rfl).1 rfl
      have e23 : ac.eval (.tmp 23) = sumV D := hP 8 (by kernel_rfl)
      have hB : Below W.heap.size W w' := hPh.1 (by decide)
      exact rop_bslG _ _ _ rfl #[(0, sumV D)] (by simp [e23]) (build_sum1 D HDl.out w') (wanted_none rfl) (hK0 _ _ (GLx.old (by decide) ((Below.refl _ _).alloc (Nat.le_refl _) _)) ⟨fun _ => below_step hB (Nat.le_refl _) ((Below.refl w'.heap.size w').alloc (Nat.le_refl _) (.cells (D.map u8V).toArray 24)), fun h => absurd h (by decide)⟩ (fun _ => Sums.one w' D HDl.out))
    · intro ac w' ph hF hPh hlt hP hU K hK0
      obtain rfl : ph = 3 := (hlt 3 10 rfl).1 rfl
      have e19 : 3 < 4 → OwnS W.heap.size w' (ac.eval (.tmp 19)) P1 := hP 4 (by kernel_rfl)
      have e24 : 3 < 4 → Sums w' (ac.eval (.tmp 24)) [D] := hP 9 (by kernel_rfl)
      have hB : Below W.heap.size W w' := hPh.1 (by decide)
      obtain ⟨v6, w6, hr6, ho6, b6⟩ := sappend_own (B := W.heap.size) 26 (e19 (by decide)) (e24 (by decide)) hB.size (by have := HPl.out; simp; omega)
      exact rop_appendG _ _ _ rfl rfl rfl hr6 (wanted_none rfl) (hK0 _ _ (GLx.last rfl) ⟨fun h => absurd h (by decide), fun _ => hB.trans b6⟩ ⟨rfl, ho6⟩)
    · intro ac w' ph hF hPh hlt hP hU K hK0
      have e25 : ph = 4 ∧ OwnS W.heap.size w' (ac.eval (.tmp 25)) (P1 ++ [D]) := hP 10 (by kernel_rfl)
      exact rop_assign _ rfl rfl (wanted_none rfl) (hK0 _ _ GLx.same hPh e25)
    · intro ac w' hF hPh hT
      have e4 : 4 = 4 ∧ OwnS W.heap.size w' (ac.eval (.tmp 4)) (P1 ++ [D]) := hT 11 (by decide)
      rw [hF.setsG [15, 16, 17, 18, 19, 20, 21, 22, 23, 24, 25, 4] (by kernel_rfl)]
      simp only [List.foldl_cons, List.foldl_nil, List.setIfInBounds_toArray, List.set_cons_succ, List.set_cons_zero]
      generalize ac.eval (.tmp 15) = u15
      generalize ac.eval (.tmp 16) = u16
      generalize ac.eval (.tmp 17) = u17
      generalize ac.eval (.tmp 18) = u18
      generalize ac.eval (.tmp 19) = u19
      generalize ac.eval (.tmp 20) = u20
      generalize ac.eval (.tmp 21) = u21
      generalize ac.eval (.tmp 22) = u22
      generalize ac.eval (.tmp 23) = u23
      generalize ac.eval (.tmp 24) = u24
      generalize ac.eval (.tmp 25) = u25
      generalize ac.eval (.tmp 4) = v4 at e4 ⊢
      clear  hT hF ac
      replace e4 := e4.2
      have hfin := hPh.2 rfl
      go_wp2
      go_ret
      exact ⟨_, rfl, by rw [HRES.out]; exact e4, hfin⟩
  · have hmk' : ¬ (m : Int) < (k : Int) := by omega
    obtain ⟨D, hD⟩ : ∃ D, D = Tree.root (l.take k) := ⟨_, rfl⟩
    have HDl : Hid (D.length = 32) := Lib.hid (by rw [hD]; exact Tree.root_length _ (ho.take k))
    obtain ⟨P1, hP1⟩ : ∃ P1, P1 = Tree.path (l.drop k) (m - k) := ⟨_, rfl⟩
    have hres : Tree.path l m = P1 ++ [D] := by rw [hpr hmk, hP1, hD]
    have HPl : Hid (P1.length ≤ 1000000) := Lib.hid (by rw [hP1]; have := hpn (l.drop k) (m - k); omega)
    have HRES := Lib.hid hres
    have hsub := IntWalk.i64_in ((m : Int) - (k : Int)) (by omega)
    have HIH : Hid (∀ u : World, Below w.heap.size w u → Calls Tryd.prog 44 #[.slice (cutS va k cap) (n - k) (cap - k), .int .i64 ((m : Int) - (k : Int))] u fun e w' => ∃ v', e = .returned v' ∧ OwnS u.heap.size w' v' P1 ∧ Below u.heap.size u w') := Lib.hid fun u hu => by
      rw [hP1]
      exact by
        rw [← Int.ofNat_sub (by omega)]
        exact ih (n - k) (by omega) (l.drop k) (m - k) _ u l2 (by omega) (by omega) (HST.out.old hu)
    have HRt : Hid (∀ u : World, Below w.heap.size w u → Calls Tryd.prog 25 #[.slice va k cap] u fun e w' => e = .returned (sumV D) ∧ Below u.heap.size u w') := Lib.hid fun u hu => by
      rw [hD]
      exact rleafRoot_any _ (l.take k) _ u rfl (by omega) (HSH.out.old hu)
    clear sh st ho hD hP1 hres hpl hpr hpn ih l1 l2 hk hlen h1 hv hP hsp
    go_enter Tryd.func44, Tryd.ntmps44
    go_upto_region 6 with (go_at_call 42; ((with_reducible refine (HSP.out _).mono ?_); rintro e w1 ⟨rfl, rfl⟩))
    obtain ⟨W, hW⟩ : ∃ W, W = w := ⟨_, rfl⟩
    subst hW
    try simp only [Act.put]
    refine wp_region_ph (Lx := GLx 4) [RXP.is (.slice va n cap), RXP.is (.int .i64 (k : Int)), RXP.is (.slice (cutS va k cap) (n - k) (cap - k)), RXP.is (.int .i64 (m : Int)), RXP.is (.int .i64 (k : Int)), RXP.is (.int .i64 ((m : Int) - (k : Int))), RXP.till (fun v w => OwnS W.heap.size w v P1) (fun _ _ _ h k => h.kept k), RXP.is (.slice va n cap), RXP.is (.int .i64 (k : Int)), RXP.is (.slice va k cap), RXP.is (sumV D), RXP.till (fun v w => Sums w v [D]) (fun _ _ _ h k => h.old k), RXP.behind (fun v w => OwnS W.heap.size w v (P1 ++ [D])), RXP.behind (fun v w => OwnS W.heap.size w v (P1 ++ [D]))] [6, 10, 11, 12] (fun k w' => (k < 4 → Below W.heap.size W w') ∧ (k = 4 → Below W.heap.size W w')) (by kernel_rfl) (by kernel_rfl) (by kernel_rfl) (by kernel_rfl) (by kernel_rfl) (⟨fun _ => below_drew (Below.refl _ _), fun h => absurd h (by decide)⟩) ⟨?_, ?_, ?_, ?_, ?_, ?_, ?_, ?_, ?_, ?_, ?_, ?_, ?_, ?_, trivial⟩ ?_
    · intro ac w' ph hF hPh hlt hP hU K hK0
      have e0 : ac.eval (.tmp 0) = .slice va n cap := hF.at 0 (by kernel_rfl)
      exact rop_move _ rfl e0 (wanted_none rfl) (hK0 _ _ GLx.same hPh rfl)
    · intro ac w' ph hF hPh hlt hP hU K hK0
      have e5 : ac.eval (.tmp 5) = .int .i64 (k : Int) := hF.at 5 (by kernel_rfl)
      exact rop_move _ rfl e5 (wanted_none rfl) (hK0 _ _ GLx.same hPh rfl)
    · intro ac w' ph hF hPh hlt hP hU K hK0
      have e26 : ac.eval (.tmp 26) = .slice va n cap := hP 0 (by kernel_rfl)
      have e27 : ac.eval (.tmp 27) = .int .i64 (k : Int) := hP 1 (by kernel_rfl)
      exact rop_sliceG _ _ _ _ _ rfl e26 (by simp [e27]) rfl rfl (scut_l va n cap k hkn w') (wanted_none rfl) (hK0 _ _ GLx.same hPh rfl)
    · intro ac w' ph hF hPh hlt hP hU K hK0
      have e1 : ac.eval (.tmp 1) = .int .i64 (m : Int) := hF.at 1 (by kernel_rfl)
      exact rop_move _ rfl e1 (wanted_none rfl) (hK0 _ _ GLx.same hPh rfl)
    · intro ac w' ph hF hPh hlt hP hU K hK0
      have e5 : ac.eval (.tmp 5) = .int .i64 (k : Int) := hF.at 5 (by kernel_rfl)
      exact rop_move _ rfl e5 (wanted_none rfl) (hK0 _ _ GLx.same hPh rfl)
    · intro ac w' ph hF hPh hlt hP hU K hK0
      have e29 : ac.eval (.tmp 29) = .int .i64 (m : Int) := hP 3 (by kernel_rfl)
      have e30 : ac.eval (.tmp 30) = .int .i64 (k : Int) := hP 4 (by kernel_rfl)
      exact rop_bin _ _ _ _ _ rfl e29 e30 (guard_int _ _ _ _ _ _ _ w') (sub_iG _ _ hsub w') (wanted_none rfl) (hK0 _ _ GLx.same hPh rfl)
    · intro ac w' ph hF hPh hlt hP hU K hK0
      obtain rfl : ph = 0 := (hlt 0 6 rfl).1 rfl
      have e28 : ac.eval (.tmp 28) = .slice (cutS va k cap) (n - k) (cap - k) := hP 2 (by kernel_rfl)
      have e31 : ac.eval (.tmp 31) = .int .i64 ((m : Int) - (k : Int)) := hP 5 (by kernel_rfl)
      have hB : Below W.heap.size W w' := hPh.1 (by decide)
      refine rop_call 44 _ _ rfl #[.slice (cutS va k cap) (n - k) (cap - k), .int .i64 ((m : Int) - (k : Int))] (by simp [e28, e31]) (by kernel_rfl) (wanted_none rfl) ?_
      refine (HIH.out w' hB).mono ?_
      rintro e w2 ⟨v2, rfl, ho2, hb⟩
      exact ⟨_, rfl, hK0 _ _ (GLx.old (by decide) hb) ⟨fun _ => below_step hB (Nat.le_refl _) hb, fun h => absurd h (by decide)⟩ (fun _ => ho2.lower hB.size)⟩
    · intro ac w' ph hF hPh hlt hP hU K hK0
      have e0 : ac.eval (.tmp 0) = .slice va n cap := hF.at 0 (by kernel_rfl)
      exact rop_move _ rfl e0 (wanted_none rfl) (hK0 _ _ GLx.same hPh rfl)
    · intro ac w' ph hF hPh hlt hP hU K hK0
      have e5 : ac.eval (.tmp 5) = .int .i64 (k : Int) := hF.at 5 (by kernel_rfl)
      exact rop_move _ rfl e5 (wanted_none rfl) (hK0 _ _ GLx.same hPh rfl)
    · intro ac w' ph hF hPh hlt hP hU K hK0
      have e33 : ac.eval (.tmp 33) = .slice va n cap := hP 7 (by kernel_rfl)
      have e34 : ac.eval (.tmp 34) = .int .i64 (k : Int) := hP 8 (by kernel_rfl)
      exact rop_sliceG _ _ _ _ _ rfl e33 rfl (by simp [e34]) rfl (scut_h va n cap k hkc w') (wanted_none rfl) (hK0 _ _ GLx.same hPh rfl)
    · intro ac w' ph hF hPh hlt hP hU K hK0
      obtain rfl : ph = 1 := (hlt 1 10 rfl).1 rfl
      have e35 : ac.eval (.tmp 35) = .slice va k cap := hP 9 (by kernel_rfl)
      have hB : Below W.heap.size W w' := hPh.1 (by decide)
      refine rop_call 25 _ _ rfl #[.slice va k cap] (by simp [e35]) (by kernel_rfl) (wanted_none rfl) ?_
      refine (HRt.out w' hB).mono ?_
      rintro e w2 ⟨rfl, hb⟩
      exact ⟨_, rfl, hK0 _ _ (GLx.old (by decide) hb) ⟨fun _ => below_step hB (Nat.le_refl _) hb, fun h => absurd h (by decide)⟩ rfl⟩
    · intro ac w' ph hF hPh hlt hP hU K hK0
      obtain rfl : ph = 2 := (hlt 2 11 rfl).1 rfl
      have e36 : ac.eval (.tmp 36) = sumV D := hP 10 (by kernel_rfl)
      have hB : Below W.heap.size W w' := hPh.1 (by decide)
      exact rop_bslG _ _ _ rfl #[(0, sumV D)] (by simp [e36]) (build_sum1 D HDl.out w') (wanted_none rfl) (hK0 _ _ (GLx.old (by decide) ((Below.refl _ _).alloc (Nat.le_refl _) _)) ⟨fun _ => below_step hB (Nat.le_refl _) ((Below.refl w'.heap.size w').alloc (Nat.le_refl _) (.cells (D.map u8V).toArray 24)), fun h => absurd h (by decide)⟩ (fun _ => Sums.one w' D HDl.out))
    · intro ac w' ph hF hPh hlt hP hU K hK0
      obtain rfl : ph = 3 := (hlt 3 12 rfl).1 rfl
      have e32 : 3 < 4 → OwnS W.heap.size w' (ac.eval (.tmp 32)) P1 := hP 6 (by kernel_rfl)
      have e37 : 3 < 4 → Sums w' (ac.eval (.tmp 37)) [D] := hP 11 (by kernel_rfl)
      have hB : Below W.heap.size W w' := hPh.1 (by decide)
      obtain ⟨v6, w6, hr6, ho6, b6⟩ := sappend_own (B := W.heap.size) 26 (e32 (by decide)) (e37 (by decide)) hB.size (by have := HPl.out; simp; omega)
      exact rop_appendG _ _ _ rfl rfl rfl hr6 (wanted_none rfl) (hK0 _ _ (GLx.last rfl) ⟨fun h => absurd h (by decide), fun _ => hB.trans b6⟩ ⟨rfl, ho6⟩)
    · intro ac w' ph hF hPh hlt hP hU K hK0
      have e38 : ph = 4 ∧ OwnS W.heap.size w' (ac.eval (.tmp 38)) (P1 ++ [D]) := hP 12 (by kernel_rfl)
      exact rop_assign _ rfl rfl (wanted_none rfl) (hK0 _ _ GLx.same hPh e38)
    · intro ac w' hF hPh hT
      have e4 : 4 = 4 ∧ OwnS W.heap.size w' (ac.eval (.tmp 4)) (P1 ++ [D]) := hT 13 (by decide)
      rw [hF.setsG [26, 27, 28, 29, 30, 31, 32, 33, 34, 35, 36, 37, 38, 4] (by kernel_rfl)]
      simp only [List.foldl_cons, List.foldl_nil, List.setIfInBounds_toArray, List.set_cons_succ, List.set_cons_zero]
      generalize ac.eval (.tmp 26) = u26
      generalize ac.eval (.tmp 27) = u27
      generalize ac.eval (.tmp 28) = u28
      generalize ac.eval (.tmp 29) = u29
      generalize ac.eval (.tmp 30) = u30
      generalize ac.eval (.tmp 31) = u31
      generalize ac.eval (.tmp 32) = u32
      generalize ac.eval (.tmp 33) = u33
      generalize ac.eval (.tmp 34) = u34
      generalize ac.eval (.tmp 35) = u35
      generalize ac.eval (.tmp 36) = u36
      generalize ac.eval (.tmp 37) = u37
      generalize ac.eval (.tmp 38) = u38
      generalize ac.eval (.tmp 4) = v4 at e4 ⊢
      clear  hT hF ac
      replace e4 := e4.2
      have hfin := hPh.2 rfl
      go_wp2
      go_ret
      exact ⟨_, rfl, by rw [HRES.out]; exact e4, hfin⟩
set_option maxRecDepth 100000 in
theorem rPath_any (v : Value) (l : Hs) (m : Int) (w : World) (hv : Sums w v l) (hn : l.length ≤ 100000) :
    Calls Tryd.prog 24 #[v, .int .i64 m] w fun e w' => ∃ v', e = .returned (.tuple #[v', .bool (pathZ l m).2]) ∧ OwnS w.heap.size w' v' (pathZ l m).1 ∧ Below w.heap.size w w' := by
  by_cases h : 0 ≤ m ∧ m < (l.length : Int)
  · obtain ⟨k, rfl⟩ := Int.eq_ofNat_of_zero_le (show 0 ≤ m by omega)
    rw [pathZ_t l k (by omega)]
    have hin := rpath_any l.length l k v w rfl hn (by omega) hv
    obtain ⟨va, cap, rfl, hlc, hcap⟩ := hv.slice
    have HIN := Lib.hid hin
    have h0 := h.1
    have h1 : ¬ (l.length : Int) ≤ (k : Int) := by omega
    clear hv h hin
    go_enter Tryd.func24, Tryd.ntmps24
    go_wp2_with (go_at_call 44; ((with_reducible refine HIN.out.mono ?_); rintro e w1 ⟨v1, rfl, ho1, b1⟩; obtain ⟨a1, c1, rfl, -, -⟩ := ho1.sums.slice; have HO1 := Lib.hid ho1; clear ho1))
    go_ret2
    exact ⟨_, rfl, HO1.out, b1⟩
  · rw [pathZ_f l m h]
    obtain ⟨va, cap, rfl, hlc, hcap⟩ := hv.slice
    have hh : m < 0 ∨ (0 ≤ m ∧ (l.length : Int) ≤ m) := by omega
    clear hv h
    rcases hh with h | ⟨h, h1⟩ <;>
    · go_enter Tryd.func24, Tryd.ntmps24
      go_wp2
      go_ret2
      exact ⟨_, rfl, OwnS.nil _ _, Below.refl _ _⟩
end Go.Proofs.YtdcebdleneieeaaDoor
/-! ## The statements' own helpers awake and few (scriniumlaw10); what laws of paths want besides. -/
namespace Go.Proofs.YtdcebdleneieeaaDoor
open Go.RowKit

/-- A new variable that is a hash, as it is stored to. -/
theorem var_sum (w : World) (x : List UInt8) (h : x.length = 32) : ((w.alloc zSum).setCells w.heap.size 0 (x.map u8V)).heap[w.heap.size]? = some (.cells (x.map u8V).toArray 24 (0, 0)) ∧ Below w.heap.size w ((w.alloc zSum).setCells w.heap.size 0 (x.map u8V)) :=
  ⟨heap_setCells_all w _ _ (by simp [h]), below_setCells (Nat.le_refl _) _ _ _ ((Below.refl _ _).alloc (Nat.le_refl _) _)⟩
theorem range_var {w : World} {q : Nat} {x : List UInt8} (h : w.heap[q]? = some (.cells (x.map u8V).toArray 24 (0, 0))) : w.rangeAt q 0 (x.map u8V) := fun j v hv => by
  rw [Nat.zero_add, cell_of h]; simpa using hv
theorem split3 : Tree.split 3 = 2 := by decide
theorem split2 : Tree.split 2 = 1 := by decide
theorem root2 (A B : List UInt8) : Tree.root [A, B] = Tree.node A B := by
  rw [Tree.root_go _ (by simp)]
  rfl
theorem path3_2 (A B C : List UInt8) : Tree.path [A, B, C] 2 = [Tree.node A B] := by
  rw [Tree.path_right (l := [A, B, C]) (by simp) (by rw [show [A, B, C].length = 3 from rfl, split3]; omega), show [A, B, C].length = 3 from rfl, split3, Tree.path_small (by simp)]
  simp [root2]
theorem path3_0 (A B C : List UInt8) : Tree.path [A, B, C] 0 = [B, C] := by
  rw [Tree.path_left (l := [A, B, C]) (by simp) (by rw [show [A, B, C].length = 3 from rfl, split3]; omega), show [A, B, C].length = 3 from rfl, split3, show [A, B, C].take 2 = [A, B] from rfl,
    Tree.path_left (l := [A, B]) (by simp) (by rw [show [A, B].length = 2 from rfl, split2]; omega), show [A, B].length = 2 from rfl, split2, Tree.path_small (by simp)]
  rfl
theorem links3_2 (A B C : List UInt8) : Tree.links [A, B, C] 2 true = [C] := by
  rw [Tree.links_left (l := [A, B, C]) (by omega) (by simp) (by rw [show [A, B, C].length = 3 from rfl, split3]; omega), show [A, B, C].length = 3 from rfl, split3, show [A, B, C].take 2 = [A, B] from rfl,
    show (2 : Nat) = [A, B].length from rfl, Tree.links_end (by simp)]
  rfl
theorem links3_3 (A B C : List UInt8) : Tree.links [A, B, C] 3 true = [] := by
  have := Tree.links_end (l := [A, B, C]) (b := true) (by simp)
  exact this
end Go.Proofs.YtdcebdleneieeaaDoor
/-! ## What the laws of layer path want besides: a place taken from any number, booleans read and compared, hashes' rows at a place. -/
namespace Go.Proofs.YtdcebdleneieeaaDoor
open Go.RowKit

/-- The place that a law takes from any number: the rest's amount. -/
theorem place_of (a : Int) (n : Nat) (h : 0 < n) : ∃ r : Int, a.tmod (n : Int) = r ∧ ∃ m : Nat, m < n ∧ ((r < 0 ∧ r = -(m : Int)) ∨ (¬ r < 0 ∧ r = (m : Int))) := by
  have h1 := Int.lt_tmod_of_pos a (show (0 : Int) < (n : Int) by omega)
  have h2 := Int.tmod_lt_of_pos a (show (0 : Int) < (n : Int) by omega)
  refine ⟨_, rfl, (a.tmod (n : Int)).natAbs, by omega, ?_⟩
  by_cases hr : a.tmod (n : Int) < 0
  · exact .inl ⟨hr, by omega⟩
  · exact .inr ⟨hr, by omega⟩
theorem load_boolP {b o : Nat} {x : Bool} {w : World} (h0 : w.cell? ⟨b, o, none⟩ = some (.bool x)) : (Instr.loadAt 4 (.pointer (some ⟨b, o, none⟩))).run Tryd.prog w = .ok (.bool x) w := by
  go_simp
theorem neq_bool_same (x : Bool) (w : World) : (binOp .neq 4 (.bool x) (.bool x)).run Tryd.prog w = .ok (.bool false) w := by cases x <;> go_simp
theorem add_iG (a b : Int) (h : IntKind.i64.wrap (a + b) = a + b) (w : World) : (binOp .add 3 (.int .i64 a) (.int .i64 b)).run Tryd.prog w = .ok (.int .i64 (a + b)) w := by
  go_simp
/-- A slice of so many, wherever it lies. -/
def RT.slen (n : Nat) : RT := ⟨fun v _ => ∃ a c, v = .slice a n c, fun _ _ _ h _ => h⟩
section
variable {ops : Array Oper} {Q : Exit → Act → World → Prop} {a : Act} {w w' : World} {K : Act → World → Prop} {o : Oper}
theorem rop_convP (t u : TypeId) (x : Operand) (hop : o.op = .convert t u x) {v r : Value} (hx : a.eval x = v) (hr : (convert t u v).run Tryd.prog w = .ok r w) (hw : Region.wanted o (yielded ops a.tmps) = true) (h : K (a.put o.dst r) w) :
    if Region.wanted o (yielded ops a.tmps) = true then Oper.wp Tryd.prog o a w K Q else K (a.put o.dst undef) w :=
  rop_v hw (by simp [execOp, hop, hx, hr]) h
end
theorem conv_u64 (i : Nat) (h : i < 64) (w : World) : (convert 3 59 (.int .i64 (i : Int))).run Tryd.prog w = .ok (.int .u64 (i : Int)) w := by
  have hw := IntWalk.u64_in (i : Int) (by omega)
  go_simp
theorem shr_nat (m i : Nat) (hm : m < 4611686018427387904) (hi : i < 64) (w : World) : (binOp .shr 3 (.int .i64 (m : Int)) (.int .u64 (i : Int))).run Tryd.prog w = .ok (.int .i64 ((m / 2 ^ i : Nat) : Int)) w := by
  have h1 : ((m / 2 ^ i : Nat) : Int) = (m : Int) / 2 ^ i := by simp
  have h2 : m / 2 ^ i ≤ m := Nat.div_le_self _ _
  generalize m / 2 ^ i = q at h1 h2 ⊢
  have hw := IntWalk.i64_in ((m : Int) / 2 ^ i) (by rw [← h1]; omega)
  rw [h1]
  go_simp
theorem and_one (m : Nat) (w : World) : (binOp .and 3 (.int .i64 (m : Int)) (.int .i64 1)).run Tryd.prog w = .ok (.int .i64 ((m % 2 : Nat) : Int)) w := by
  have hb : bits .and .i64 (m : Int) 1 = ((m % 2 : Nat) : Int) := by rw [and_maskL (m : Int) 1 1 (by decide) rfl]; rfl
  go_simp
theorem eql_one (m : Nat) (w : World) : (binOp .eql 3 (.int .i64 (m : Int)) (.int .i64 1)).run Tryd.prog w = .ok (.bool (decide (m = 1))) w := by
  have h : decide ((m : Int) = 1) = decide (m = 1) := decide_eq_decide.2 (by omega)
  exact eql_iG (m : Int) 1 _ h w
theorem guard_shr (t : TypeId) (x y : Operand) (a b : Int) (k : IntKind) (w : World) : (eqGuard .shr t x y (.int .i64 a) (.int k b)).run Tryd.prog w = .ok () w := by
  unfold eqGuard; simp
theorem long_lt (m n : Nat) (h : n ≤ 20) : Tree.long m n ≤ 5 := Tree.long_le 5 m n (Nat.le_trans h (by decide))
end Go.Proofs.YtdcebdleneieeaaDoor
