/-
  Package twin: the texts on a way up.
-/
import Derived.Test.YtdcebdleneieeaaDoorTwinAre
import Derived.Test.YtdcebdleneieeaaDoorMProofB
namespace Go.Proofs.YtdcebdleneieeaaDoor
open Go.RowKit

section
variable {ops : Array Oper} {Q : Exit → Act → World → Prop} {a : Act} {w w' : World} {K : Act → World → Prop} {o : Oper}
theorem rop_callvT {P : Program} (f : FuncId) (x : Operand) (xs : Array Operand) (ts : Array TypeId) (hop : o.op = .call { callee := .value x, args := xs, argTypes := ts }) (cap args : Array Value) (hx : a.eval x = .func (.func f) #[] cap) (ha : xs.map a.eval = args) (he : enters P f = true)
    (hw : Region.wanted o (yielded ops a.tmps) = true) (h : Calls P f (args ++ cap) w fun e w' => ∃ v, e = .returned v ∧ K (a.put o.dst v) w') :
    if Region.wanted o (yielded ops a.tmps) = true then Oper.wp P o a w K Q else K (a.put o.dst undef) w := by
  rw [if_pos hw]
  unfold Oper.wp
  have hrun : (execOp a.eval o).run P w = .ok (.enter f (args ++ cap)) w := by
    have hx2 := run_enters he (args ++ cap) w
    simp [execOp, hop, resolve, invoke, ha, hx, Deferred.ofValue, hx2]
  rw [hrun, Oper.upon_enter]
  exact h.mono fun e w' ⟨v, he, hk⟩ => by subst he; exact hk
end
/-- The closure's two variables: the texts, and the hash that was come to. -/
structure WC (B tp xp : Nat) (L : Ts) (x : List UInt8) (w : World) : Prop where
  row : ∃ v, w.heap[tp]? = some (.cells #[v] 52 (0, 0)) ∧ OwnT B w v L
  var : IsH x w xp
  len : x.length = 32
  lt : B ≤ tp
  lx : B ≤ xp
  ne : tp ≠ xp
theorem WC.lts {B tp xp : Nat} {L : Ts} {x : List UInt8} {w : World} (h : WC B tp xp L x w) : tp < w.heap.size ∧ xp < w.heap.size := by
  obtain ⟨v, h1, _⟩ := h.row
  exact ⟨(Array.getElem?_eq_some_iff.1 h1).1, (Array.getElem?_eq_some_iff.1 h.var).1⟩
theorem WC.size {B tp xp : Nat} {L : Ts} {x : List UInt8} {w : World} (h : WC B tp xp L x w) : B ≤ w.heap.size := by have := h.lts; have := h.lt; omega
theorem WC.old {B tp xp : Nat} {L : Ts} {x : List UInt8} {w w' : World} (h : WC B tp xp L x w) (hb : Below w.heap.size w w') : WC B tp xp L x w' := by
  obtain ⟨v, h1, h2⟩ := h.row
  exact ⟨⟨v, (hb.block _ h.lts.1).trans h1, h2.kept hb⟩, IsH.old h.var hb, h.len, h.lt, h.lx, h.ne⟩
theorem ne_text1 : 52 ≠ 9 := by decide
theorem ne_text2 : 24 ≠ 9 := by decide
theorem load_textsl {b o : Nat} {x : Option Addr} {n c : Nat} {w : World} (h0 : w.cell? ⟨b, o, none⟩ = some (.slice x n c)) : (Instr.loadAt 52 (.pointer (some ⟨b, o, none⟩))).run Tryd.prog w = .ok (.slice x n c) w := by
  go_simp
theorem strRow_one {w : World} {q : Nat} {S : ByteArray} (h : w.heap[q]? = some (.cells #[.string S] 9 (0, 0))) : StrRow w (.slice (some ⟨q, 0, none⟩) 1 1) [S] :=
  ⟨some ⟨q, 0, none⟩, 1, rfl, by simp, fun _ => ⟨q, 0, rfl, (Array.getElem?_eq_some_iff.1 h).1, fun j hj => by
    obtain rfl : j = 0 := by simpa using hj
    rw [Nat.add_zero, cell_of h]
    rfl⟩⟩
set_option maxHeartbeats 2000000 in
set_option maxRecDepth 100000 in
theorem wup_any (B tp xp : Nat) (L : Ts) (x t : List UInt8) (w : World) (h : WC B tp xp L x w) (hK : KT w) (hB : 0 < B) (hL : L.length ≤ 1000) (ht : t.length ≤ 1000000) :
    Calls Tryd.prog 64 #[.string (tS t), .pointer (some ⟨tp, 0, none⟩), .pointer (some ⟨xp, 0, none⟩)] w fun e w' => e = .returned (.tuple #[]) ∧ WC B tp xp (L ++ [t]) (Sha.digest t) w' ∧ Below B w w' := by
  obtain ⟨v, hv, ho⟩ := h.row
  obtain ⟨D, hD⟩ : ∃ D, D = Sha.digest t := ⟨_, rfl⟩
  have hDl : D.length = 32 := by rw [hD]; exact Sha.digest_length _
  obtain ⟨v2, w2, hr2, ho2, b2, g2⟩ := tappend_own 52 t ho h.size (by omega)
  have hlt := h.lts
  have hv1 : (w.alloc (.cells #[tV t] 9)).heap[tp]? = some (.cells #[v] 52 (0, 0)) := (Below.heap_alloc _ _ _ hlt.1).trans hv
  have hx1 : IsH x (w.alloc (.cells #[tV t] 9)) xp := (Below.heap_alloc _ _ _ hlt.2).trans h.var
  have hv2 : w2.heap[tp]? = some (.cells #[v] 52 (0, 0)) := (g2.block _ (by simp; omega) (fun e => ho.not hv ne_text1 e.symm)).trans hv1
  have hx2 : IsH x w2 xp := (g2.block _ (by simp; omega) (fun e => ho.not h.var ne_text2 e.symm)).trans hx1
  obtain ⟨w3, hw3⟩ : ∃ w3, w3 = w2.setCell ⟨tp, 0, none⟩ v2 := ⟨_, rfl⟩
  have b3 : Below B w w3 := by rw [hw3]; exact b2.setCell (p := ⟨tp, 0, none⟩) h.lt _
  have hv3 : w3.heap[tp]? = some (.cells #[v2] 52 (0, 0)) := by
    have := heap_set (i := 0) hv2 v2
    rw [hw3]
    simpa using this
  have hx3 : IsH x w3 xp := by rw [hw3]; exact (heap_far (Ne.symm h.ne) v2).trans hx2
  have ho3 : OwnT B w3 v2 (L ++ [t]) := by rw [hw3]; exact ho2.kept' fun g e => heap_far (fun e' => ho2.not hv2 ne_text1 (by rw [e, e'])) v2
  have hk3 : KT w3 := hK.oldB b3 hB
  have HOF : Hid (∀ q u, u = w3.alloc (.cells #[.string (tS t)] 9) → q = w3.heap.size → Calls Tryd.prog 39 #[.slice (some ⟨q, 0, none⟩) 1 1] u fun e w' => e = .returned (sumV D) ∧ Below u.heap.size u w') := Lib.hid fun q u hu hq => by
    subst hu hq
    have hs := strRow_one (heap_alloc_last w3 (.cells #[.string (tS t)] 9))
    have hb : Below w3.heap.size w3 (w3.alloc (.cells #[.string (tS t)] 9)) := (Below.refl _ _).alloc (Nat.le_refl _) _
    have := of_any _ [tS t] _ hs (hk3.old hb) (by simp [flat, tS_list]; omega)
    rwa [show flat [tS t] = t by simp [flat, tS_list], ← hD] at this
  have c1 : w.cell? ⟨tp, 0, none⟩ = some v := cell_of hv 0
  have c2 : w2.cell? ⟨tp, 0, none⟩ = some v := cell_of hv2 0
  have f2 : w2.frozen? ⟨tp, 0, none⟩ = false := fz_of hv2 0
  obtain ⟨va, vc, rfl⟩ := ho.texts.slice
  obtain ⟨ua, uc, rfl⟩ := ho2.texts.slice
  unfold tV at hr2
  have HR := Lib.hid hr2
  have HV3 := Lib.hid hv3
  have HX3 := Lib.hid hx3
  have HO3 := Lib.hid ho3
  have HB3 := Lib.hid b3
  have HXl := Lib.hid h.len
  have HDl := Lib.hid hDl
  have Hlt := Lib.hid h.lt
  have Hlx := Lib.hid h.lx
  have Hne := Lib.hid h.ne
  obtain ⟨n0, hn0⟩ : ∃ n, n = L.length := ⟨_, rfl⟩
  obtain ⟨n1, hn1⟩ : ∃ n, n = (L ++ [t]).length := ⟨_, rfl⟩
  rw [← hn0] at HR c1 c2
  rw [← hn1] at HR hw3 HV3 HO3
  rw [← hD]
  have h3B : B ≤ w3.heap.size := by have := (Array.getElem?_eq_some_iff.1 HX3.out).1; have := h.lx; omega
  clear h hv ho hr2 ho2 b2 g2 hv1 hx1 hv2 hx2 b3 hv3 hx3 ho3 hk3 hK hD hDl hlt hn0 hn1 hL ht
  obtain ⟨S, hS⟩ : ∃ S, S = tS t := ⟨_, rfl⟩
  rw [← hS] at HR HOF ⊢
  have HW3 := Lib.hid hw3
  clear hS hw3
  go_enter Tryd.func64, Tryd.ntmps64
  go_upto_region 1 with (at_builtin; refine Lib.wpList_append_run _ rfl _ _ _ _ rfl _ _ rfl rfl _ _ HR.out ?_)
  rw [← HW3.out]
  go_wp2_with (first
    | (go_at_call 39; refine (HOF.out _ _ rfl rfl).mono ?_; rintro e w5 ⟨rfl, b5⟩; have b6 := Lib.hid (below_step ((Below.refl w3.heap.size w3).alloc (Nat.le_refl _) (.cells #[.string S] 9)) (Nat.le_refl _) b5); clear b5; have HX5 := Lib.hid (IsH.old HX3.out b6.out))
    | refine wpList_store_mid rfl 24 (.tmp 2) (.tmp 10) rfl xp 0 (D.map u8V).toArray rfl rfl (sum_thereP HX5.out HXl.out HDl.out) (sum_info HDl.out) (sum_one D) ?_)
  go_end0
  have hv5 := (b6.out.block _ (Array.getElem?_eq_some_iff.1 HV3.out).1).trans HV3.out
  have ho5 := HO3.out.kept b6.out
  have hfar : Only xp w5 (w5.setCells xp 0 (D.map u8V)) := only_setCells (b := xp) (D.map u8V) 0 _ (Only.refl _ _)
  refine ⟨rfl, ⟨⟨_, (hfar.block _ (Array.getElem?_eq_some_iff.1 hv5).1 Hne.out).trans hv5, ho5.kept' fun g e => hfar.block g (World.ownsRow.lt ho5 g e).2 (fun e' => ho5.not HX5.out ne_text2 (by rw [e, e']))⟩, set_sumP w5 xp x D HXl.out HDl.out HX5.out, HDl.out, Hlt.out, Hlx.out, Hne.out⟩, ?_⟩
  exact (HB3.out.trans (b6.out.mono h3B)).trans (hfar.below Hlx.out (Nat.le_trans h3B b6.out.size))
theorem make_txts (c : Nat) (hc : c ≤ 1000000) : ∃ cur : Array Value, cur.size = c ∧ ∀ w : World, (Instr.makeSlice 52 (.int .i64 0) (.int .i64 (c : Int))).run Tryd.prog w = .ok (.slice (some ⟨w.heap.size, 0, none⟩) 0 c) (w.alloc (.cells cur 9)) := by
  obtain ⟨i0, hi, hz0, hz1, hz2⟩ := info_parts info_txt
  refine ⟨madeCells (Value.string .empty).cells (c * 1), by simp [madeCells], fun w => ?_⟩
  have hr := run_make (P := Tryd.prog) w 52 9 i0 (.string .empty) Tryd.underlying52 hi hz0 .i64 .i64 0 c (by omega) (by omega) (by rw [hz2]; omega) (by omega)
  rw [hz1] at hr
  simpa using hr
theorem make_txts_own {w : World} {cur : Array Value} {c : Nat} (hs : cur.size = c) (hc : c ≤ 1000000) : OwnT w.heap.size (w.alloc (.cells cur 9)) (.slice (some ⟨w.heap.size, 0, none⟩) 0 c) [] :=
  World.ownsRow_made w cur c (Nat.le_refl _) (by unfold maxLen; omega) (by omega)
/-- Ahead of hash i: the texts so far, and those to come, are D. -/
def WayRel (B tp q : Nat) (P : Hs) (T : List Bool) (D : Ts) (V : World) (s17 : Value) (wr : World) : Prop :=
  ∃ (i : Nat) (X : List UInt8) (L : Ts), s17 = .int .i64 (i : Int) ∧ i ≤ T.length ∧ L.length ≤ i ∧ L ++ Tree.wayL X (P.drop i) (T.drop i) = D ∧ WC B tp q L X wr ∧ Below B V wr
theorem preS_length (x s : List UInt8) (b : Bool) (hx : x.length = 32) (hs : s.length = 32) : (Tree.preS x s b).length = 65 := by
  unfold Tree.preS Tree.pre
  cases b <;> simp [hx, hs]
set_option maxHeartbeats 4000000 in
set_option maxRecDepth 100000 in
theorem way_any (x : List UInt8) (hx : x.length = 32) (v u : Value) (P : Hs) (T : List Bool) (w : World) (hv : Sums w v P) (hu : Bools w u T) (hP : P.length = T.length) (hl : T.length ≤ 1000) (hK : KT w) :
    Calls Tryd.prog 46 #[sumV x, v, u] w fun e w' => ∃ v', e = .returned v' ∧ OwnT w.heap.size w' v' (Tree.wayL x P T) ∧ Below w.heap.size w w' := by
  have hmf : ∀ (fn : Fn) (first cap : Array Value) (w : World), (Instr.makeFunc fn first cap).run Tryd.prog w = .ok (.func fn first cap) w := fun _ _ _ _ => rfl
  obtain ⟨va, cap, rfl, -, -⟩ := hv.slice
  obtain ⟨ta, tcap, rfl, -, -⟩ := hu.slice
  obtain ⟨k, hk⟩ : ∃ k, k = T.length := ⟨_, rfl⟩
  obtain ⟨cur, hcs, hmk⟩ := make_txts k (by omega)
  obtain ⟨D, hD⟩ : ∃ D, D = Tree.wayL x P T := ⟨_, rfl⟩
  obtain ⟨w1, hw1⟩ : ∃ w1, w1 = w.alloc (.cells (x.map u8V).toArray 24) := ⟨_, rfl⟩
  have h1 : IsH x w1 w.heap.size := by rw [hw1]; exact heap_alloc_last w _
  have s1 : w1.heap.size = w.heap.size + 1 := by rw [hw1]; simp
  have b1 : Below w.heap.size w w1 := by rw [hw1]; exact (Below.refl _ _).alloc (Nat.le_refl _) _
  obtain ⟨w2, hw2⟩ : ∃ w2, w2 = (w1.alloc (.cells cur 9)).alloc (.cells #[.slice (some ⟨w.heap.size + 1, 0, none⟩) 0 k] 52) := ⟨_, rfl⟩
  have b2 : Below w1.heap.size w1 w2 := by rw [hw2]; exact ((Below.refl _ _).alloc (Nat.le_refl _) _).alloc (by simp) _
  have o2 : OwnT w.heap.size w2 (.slice (some ⟨w.heap.size + 1, 0, none⟩) 0 k) [] := by
    rw [hw2, ← s1]
    exact (((make_txts_own hcs (by omega) : OwnT w1.heap.size (w1.alloc (.cells cur 9)) _ []).kept ((Below.refl _ _).alloc (Nat.le_refl _) _))).lower (by omega)
  have t2 : w2.heap[w.heap.size + 1 + 1]? = some (.cells #[.slice (some ⟨w.heap.size + 1, 0, none⟩) 0 k] 52 (0, 0)) := by
    have := heap_alloc_last (w1.alloc (.cells cur 9)) (.cells #[.slice (some ⟨w.heap.size + 1, 0, none⟩) 0 k] 52)
    rwa [World.size_alloc, ← hw2, s1] at this
  have wc2 : WC w.heap.size (w.heap.size + 1 + 1) w.heap.size [] x w2 := ⟨⟨_, t2, o2⟩, IsH.old h1 b2, hx, by omega, Nat.le_refl _, by omega⟩
  have bw2 : Below w.heap.size w w2 := below_step b1 (Nat.le_refl _) b2
  have HV := Lib.hid hv
  have HTB := Lib.hid hu
  have HPok := Lib.hid hv.ok
  have HKW := Lib.hid hK
  have HWC := Lib.hid wc2
  have HBW := Lib.hid bw2
  have Hk := Lib.hid hk
  have HD := Lib.hid hD
  have hk' : k ≤ 1000 := by omega
  have hPk : P.length = k := by omega
  rw [hPk] at HV
  rw [← hk] at HTB
  have HPk := Lib.hid hPk
  rw [← hD, hPk, ← hk]
  clear hv hu hK wc2 bw2 t2 o2 b2 b1 h1 hx hk hD hPk hP hl hcs
  unfold sumV
  go_enter Tryd.func46, Tryd.ntmps46
  go_upto_region 1 with (fail)
  change Code.wp _ _ _ _ (w.alloc (.cells (x.map u8V).toArray 24))
  rw [← hw1]
  clear hw1
  go_upto_region 2 with (fail)
  rw [← hw2]
  clear hw2 hmk s1
  obtain ⟨tp, htp⟩ : ∃ tp, tp = w.heap.size + 1 + 1 := ⟨_, rfl⟩
  rw [← htp] at HWC ⊢
  clear htp
  obtain ⟨q, hq⟩ : ∃ q, q = w.heap.size := ⟨_, rfl⟩
  rw [← hq] at HWC HBW ⊢
  have Hq := Lib.hid hq
  have hq0 : 0 < q := by rw [hq]; exact HKW.out.pos
  clear hq
  go_wp2
  go_loopw [17] (WayRel q tp q P T D w) (fun s17 _ => k - (intOf s17).toNat)
  case atStart => exact ⟨0, x, [], rfl, Nat.zero_le _, Nat.le_refl _, by rw [HD.out]; rfl, HWC.out, HBW.out⟩
  case round =>
    obtain ⟨i, X, L, rfl, hi, hLl, hLD, hwc, hbel⟩ := hrel
    rw [← Hk.out] at hi
    by_cases hik : i < k
    · have hik' : (i : Int) < (k : Int) := by omega
      obtain ⟨p, hp⟩ : ∃ p, P[i]? = some p := ⟨_, List.getElem?_eq_getElem (by rw [HPk.out]; exact hik)⟩
      obtain ⟨tb, htb⟩ : ∃ tb, T[i]? = some tb := ⟨_, List.getElem?_eq_getElem (by rw [← Hk.out]; exact hik)⟩
      have hpl : p.length = 32 := HPok.out p (List.mem_of_getElem? hp)
      obtain ⟨bt, ot, rfl, hbt, -, hct0⟩ := HTB.out.at htb
      obtain ⟨bp, op, rfl, hbp0, -, hrp0⟩ := HV.out.at0 hp
      have hct : wr.cell? ⟨bt, ot + i, none⟩ = some (.bool tb) := (hbel.cell (p := ⟨bt, ot + i, none⟩) (by rw [Hq.out]; exact hbt)).trans hct0
      have hrp : wr.rangeAt bp (op + i * 32) (p.map u8V) := below_range' hbel (by rw [Hq.out]; exact hbp0) hrp0
      have hbp : bp < wr.heap.size := Nat.lt_of_lt_of_le hbp0 (by rw [← Hq.out]; exact hwc.size)
      have hidx1 := fun u => index_bools bt ot k tcap i (i : Int) rfl hik u
      have hwr := IntWalk.i64_in ((i : Int) + 1) (by omega)
      obtain ⟨t, ht⟩ : ∃ t, t = Tree.preS X p tb := ⟨_, rfl⟩
      have htl : t.length = 65 := by rw [ht]; exact preS_length _ _ _ hwc.len hpl
      obtain ⟨Y, hY⟩ : ∃ Y, Y = Sha.digest t := ⟨_, rfl⟩
      have hLD2 : (L ++ [t]) ++ Tree.wayL Y (P.drop (i + 1)) (T.drop (i + 1)) = D := by
        obtain ⟨hi1, hi2⟩ := List.getElem?_eq_some_iff.1 hp
        obtain ⟨hj1, hj2⟩ := List.getElem?_eq_some_iff.1 htb
        rw [List.drop_eq_getElem_cons hi1, List.drop_eq_getElem_cons hj1, hi2, hj2, Tree.wayL_cons, Tree.step_pre, ← ht, ← hY] at hLD
        rw [← hLD]
        simp
      have HN : Hid (∀ a b u, (a = X ∧ b = p ∧ tb = false ∨ a = p ∧ b = X ∧ tb = true) → Calls Tryd.prog 65 #[sumV a, sumV b] u fun e w' => e = .returned (.string (tS t)) ∧ Below u.heap.size u w') := Lib.hid fun a b u hab => by
        rw [ht]
        rcases hab with ⟨rfl, rfl, rfl⟩ | ⟨rfl, rfl, rfl⟩
        · exact leafPre_any _ _ hwc.len hpl u
        · exact leafPre_any _ _ hpl hwc.len u
      have hKr : KT wr := HKW.out.oldB (hbel.mono (by rw [Hq.out]; exact Nat.le_refl _)) HKW.out.pos
      have HU : Hid (∀ u, Below wr.heap.size wr u → Calls Tryd.prog 64 #[.string (tS t), .pointer (some ⟨tp, 0, none⟩), .pointer (some ⟨q, 0, none⟩)] u fun e w' => e = .returned (.tuple #[]) ∧ WC q tp q (L ++ [t]) Y w' ∧ Below q wr w') := Lib.hid fun u hu => by
        rw [hY]
        exact (wup_any q tp q L X t u (hwc.old hu) (hKr.old hu) hq0 (by omega) (by omega)).mono fun e w' ⟨h1, h2, h3⟩ => ⟨h1, h2, (hu.mono hwc.size).trans h3⟩
      have HPl := Lib.hid hpl
      have HXl := Lib.hid hwc.len
      have HRP := Lib.hid hrp
      have HQC := Lib.hid hwc.var
      have HLD2 := Lib.hid hLD2
      have HBEL := Lib.hid hbel
      clear hp htb hpl hct0 hrp0 hrp ht htl hY hLD hLD2 hwc hKr hbel hbp0 hbt
      obtain ⟨W, hW⟩ : ∃ W, W = wr := ⟨_, rfl⟩
      subst hW
      cases tb with
      | true =>
        go_upto_region 7 with (fail)
        try simp only [Act.put]
        refine wp_region_ph (Lx := GLx 2) [RXP.is (.func (.func 64) #[] #[.pointer (some ⟨tp, 0, none⟩), .pointer (some ⟨q, 0, none⟩)]), RXP.is (.slice (some ⟨bp, op, none⟩) k cap), RXP.is (.int .i64 (i : Int)), RXP.is (.pointer (some ⟨bp, op + i * 32, none⟩)), RXP.is (sumV p), RXP.is (sumV X), RXP.is (.string (tS t)), RXP.any] [6, 7] (fun k w' => (k < 2 → Below W.heap.size W w') ∧ (k = 2 → WC q tp q (L ++ [t]) Y w' ∧ Below q W w')) (by kernel_rfl) (by kernel_rfl) (by kernel_rfl) (by kernel_rfl) (by kernel_rfl) (⟨fun _ => below_drew (Below.refl _ _), fun h => by cases h⟩) ⟨?_, ?_, ?_, ?_, ?_, ?_, ?_, ?_, trivial⟩ ?_
        · intro ac w' ph hF hPh hlt hP hU K hK0
          have e8 : ac.eval (.tmp 8) = .func (.func 64) #[] #[.pointer (some ⟨tp, 0, none⟩), .pointer (some ⟨q, 0, none⟩)] := hF.at 8 (by kernel_rfl)
          exact rop_move _ rfl e8 (wanted_none rfl) (hK0 _ _ GLx.same hPh rfl)
        · intro ac w' ph hF hPh hlt hP hU K hK0
          have e1 : ac.eval (.tmp 1) = .slice (some ⟨bp, op, none⟩) k cap := hF.at 1 (by kernel_rfl)
          exact rop_move _ rfl e1 (wanted_none rfl) (hK0 _ _ GLx.same hPh rfl)
        · intro ac w' ph hF hPh hlt hP hU K hK0
          have e9 : ac.eval (.tmp 9) = .int .i64 (i : Int) := hF.at 9 (by kernel_rfl)
          exact rop_move _ rfl e9 (wanted_none rfl) (hK0 _ _ GLx.same hPh rfl)
        · intro ac w' ph hF hPh hlt hP hU K hK0
          have e24 : ac.eval (.tmp 24) = .slice (some ⟨bp, op, none⟩) k cap := hP 1 (by kernel_rfl)
          have e25 : ac.eval (.tmp 25) = .int .i64 (i : Int) := hP 2 (by kernel_rfl)
          exact rop_idx _ _ _ rfl e24 e25 (index_sums bp op k cap i hik w') (wanted_none rfl) (hK0 _ _ GLx.same hPh rfl)
        · intro ac w' ph hF hPh hlt hP hU K hK0
          have hph : ph ≤ 0 := (hlt 0 6 rfl).2 (by kernel_rfl)
          have e26 : ac.eval (.tmp 26) = .pointer (some ⟨bp, op + i * 32, none⟩) := hP 3 (by kernel_rfl)
          exact rop_ld _ _ rfl e26 (load_sumP HPl.out (below_range' (hPh.1 (by omega)) hbp HRP.out)) (wanted_none rfl) (hK0 _ _ GLx.same hPh rfl)
        · intro ac w' ph hF hPh hlt hP hU K hK0
          have hph : ph ≤ 0 := (hlt 0 6 rfl).2 (by kernel_rfl)
          have e3 : ac.eval (.tmp 3) = .pointer (some ⟨q, 0, none⟩) := hF.at 3 (by kernel_rfl)
          exact rop_ld _ _ rfl e3 (load_sumP HXl.out (range_var (IsH.old HQC.out (hPh.1 (by omega))))) (wanted_none rfl) (hK0 _ _ GLx.same hPh rfl)
        · intro ac w' ph hF hPh hlt hP hU K hK0
          obtain rfl : ph = 0 := (hlt 0 6 rfl).1 rfl
          have e27 : ac.eval (.tmp 27) = sumV p := hP 4 (by kernel_rfl)
          have e28 : ac.eval (.tmp 28) = sumV X := hP 5 (by kernel_rfl)
          have hB : Below W.heap.size W w' := hPh.1 (by decide)
          refine rop_call 65 _ _ rfl #[sumV p, sumV X] (by simp [e27, e28]) (by kernel_rfl) (wanted_none rfl) ?_
          refine (HN.out _ _ w' (.inr ⟨rfl, rfl, rfl⟩)).mono ?_
          rintro e w2 ⟨rfl, hb⟩
          exact ⟨_, rfl, hK0 _ _ (GLx.old (by decide) hb) ⟨fun _ => below_step hB (Nat.le_refl _) hb, fun h => by cases h⟩ rfl⟩
        · intro ac w' ph hF hPh hlt hP hU K hK0
          obtain rfl : ph = 1 := (hlt 1 7 rfl).1 rfl
          have e29 : ac.eval (.tmp 29) = .string (tS t) := hP 6 (by kernel_rfl)
          have hB : Below W.heap.size W w' := hPh.1 (by decide)
          have e23 : ac.eval (.tmp 23) = .func (.func 64) #[] #[.pointer (some ⟨tp, 0, none⟩), .pointer (some ⟨q, 0, none⟩)] := hP 0 (by kernel_rfl)
          refine rop_callvT 64 _ _ _ rfl #[.pointer (some ⟨tp, 0, none⟩), .pointer (some ⟨q, 0, none⟩)] #[.string (tS t)] e23 (by simp [e29]) (by kernel_rfl) (wanted_none rfl) ?_
          refine (HU.out w' hB).mono ?_
          rintro e w2 ⟨rfl, hw, hb⟩
          exact ⟨_, rfl, hK0 _ _ (GLx.last rfl) ⟨fun h => absurd h (by decide), fun _ => ⟨hw, hb⟩⟩ trivial⟩
        · intro ac w' hF hPh hT
          rw [hF.setsG [23, 24, 25, 26, 27, 28, 29, 30] (by kernel_rfl)]
          simp only [List.foldl_cons, List.foldl_nil, List.setIfInBounds_toArray, List.set_cons_succ, List.set_cons_zero]
          generalize ac.eval (.tmp 23) = u23
          generalize ac.eval (.tmp 24) = u24
          generalize ac.eval (.tmp 25) = u25
          generalize ac.eval (.tmp 26) = u26
          generalize ac.eval (.tmp 27) = u27
          generalize ac.eval (.tmp 28) = u28
          generalize ac.eval (.tmp 29) = u29
          generalize ac.eval (.tmp 30) = u30
          clear  hT hF ac
          have hfin := hPh.2 rfl
          have HFI := Lib.hid (And.intro hfin.1 (HBEL.out.trans hfin.2))
          clear hPh hfin
          go_wp2
          exact ⟨⟨i + 1, Y, _, by simp, by rw [← Hk.out]; omega, by simp; omega, HLD2.out, HFI.out.1, HFI.out.2⟩, by simp [intOf]; omega⟩
      | false =>
        go_upto_region 8 with (fail)
        try simp only [Act.put]
        refine wp_region_ph (Lx := GLx 2) [RXP.is (.func (.func 64) #[] #[.pointer (some ⟨tp, 0, none⟩), .pointer (some ⟨q, 0, none⟩)]), RXP.is (sumV X), RXP.is (.slice (some ⟨bp, op, none⟩) k cap), RXP.is (.int .i64 (i : Int)), RXP.is (.pointer (some ⟨bp, op + i * 32, none⟩)), RXP.is (sumV p), RXP.is (.string (tS t)), RXP.any] [6, 7] (fun k w' => (k < 2 → Below W.heap.size W w') ∧ (k = 2 → WC q tp q (L ++ [t]) Y w' ∧ Below q W w')) (by kernel_rfl) (by kernel_rfl) (by kernel_rfl) (by kernel_rfl) (by kernel_rfl) (⟨fun _ => below_drew (Below.refl _ _), fun h => by cases h⟩) ⟨?_, ?_, ?_, ?_, ?_, ?_, ?_, ?_, trivial⟩ ?_
        · intro ac w' ph hF hPh hlt hP hU K hK0
          have e8 : ac.eval (.tmp 8) = .func (.func 64) #[] #[.pointer (some ⟨tp, 0, none⟩), .pointer (some ⟨q, 0, none⟩)] := hF.at 8 (by kernel_rfl)
          exact rop_move _ rfl e8 (wanted_none rfl) (hK0 _ _ GLx.same hPh rfl)
        · intro ac w' ph hF hPh hlt hP hU K hK0
          have hph : ph ≤ 0 := (hlt 0 6 rfl).2 (by kernel_rfl)
          have e3 : ac.eval (.tmp 3) = .pointer (some ⟨q, 0, none⟩) := hF.at 3 (by kernel_rfl)
          exact rop_ld _ _ rfl e3 (load_sumP HXl.out (range_var (IsH.old HQC.out (hPh.1 (by omega))))) (wanted_none rfl) (hK0 _ _ GLx.same hPh rfl)
        · intro ac w' ph hF hPh hlt hP hU K hK0
          have e1 : ac.eval (.tmp 1) = .slice (some ⟨bp, op, none⟩) k cap := hF.at 1 (by kernel_rfl)
          exact rop_move _ rfl e1 (wanted_none rfl) (hK0 _ _ GLx.same hPh rfl)
        · intro ac w' ph hF hPh hlt hP hU K hK0
          have e9 : ac.eval (.tmp 9) = .int .i64 (i : Int) := hF.at 9 (by kernel_rfl)
          exact rop_move _ rfl e9 (wanted_none rfl) (hK0 _ _ GLx.same hPh rfl)
        · intro ac w' ph hF hPh hlt hP hU K hK0
          have e33 : ac.eval (.tmp 33) = .slice (some ⟨bp, op, none⟩) k cap := hP 2 (by kernel_rfl)
          have e34 : ac.eval (.tmp 34) = .int .i64 (i : Int) := hP 3 (by kernel_rfl)
          exact rop_idx _ _ _ rfl e33 e34 (index_sums bp op k cap i hik w') (wanted_none rfl) (hK0 _ _ GLx.same hPh rfl)
        · intro ac w' ph hF hPh hlt hP hU K hK0
          have hph : ph ≤ 0 := (hlt 0 6 rfl).2 (by kernel_rfl)
          have e35 : ac.eval (.tmp 35) = .pointer (some ⟨bp, op + i * 32, none⟩) := hP 4 (by kernel_rfl)
          exact rop_ld _ _ rfl e35 (load_sumP HPl.out (below_range' (hPh.1 (by omega)) hbp HRP.out)) (wanted_none rfl) (hK0 _ _ GLx.same hPh rfl)
        · intro ac w' ph hF hPh hlt hP hU K hK0
          obtain rfl : ph = 0 := (hlt 0 6 rfl).1 rfl
          have e32 : ac.eval (.tmp 32) = sumV X := hP 1 (by kernel_rfl)
          have e36 : ac.eval (.tmp 36) = sumV p := hP 5 (by kernel_rfl)
          have hB : Below W.heap.size W w' := hPh.1 (by decide)
          refine rop_call 65 _ _ rfl #[sumV X, sumV p] (by simp [e32, e36]) (by kernel_rfl) (wanted_none rfl) ?_
          refine (HN.out _ _ w' (.inl ⟨rfl, rfl, rfl⟩)).mono ?_
          rintro e w2 ⟨rfl, hb⟩
          exact ⟨_, rfl, hK0 _ _ (GLx.old (by decide) hb) ⟨fun _ => below_step hB (Nat.le_refl _) hb, fun h => by cases h⟩ rfl⟩
        · intro ac w' ph hF hPh hlt hP hU K hK0
          obtain rfl : ph = 1 := (hlt 1 7 rfl).1 rfl
          have e37 : ac.eval (.tmp 37) = .string (tS t) := hP 6 (by kernel_rfl)
          have hB : Below W.heap.size W w' := hPh.1 (by decide)
          have e31 : ac.eval (.tmp 31) = .func (.func 64) #[] #[.pointer (some ⟨tp, 0, none⟩), .pointer (some ⟨q, 0, none⟩)] := hP 0 (by kernel_rfl)
          refine rop_callvT 64 _ _ _ rfl #[.pointer (some ⟨tp, 0, none⟩), .pointer (some ⟨q, 0, none⟩)] #[.string (tS t)] e31 (by simp [e37]) (by kernel_rfl) (wanted_none rfl) ?_
          refine (HU.out w' hB).mono ?_
          rintro e w2 ⟨rfl, hw, hb⟩
          exact ⟨_, rfl, hK0 _ _ (GLx.last rfl) ⟨fun h => absurd h (by decide), fun _ => ⟨hw, hb⟩⟩ trivial⟩
        · intro ac w' hF hPh hT
          rw [hF.setsG [31, 32, 33, 34, 35, 36, 37, 38] (by kernel_rfl)]
          simp only [List.foldl_cons, List.foldl_nil, List.setIfInBounds_toArray, List.set_cons_succ, List.set_cons_zero]
          generalize ac.eval (.tmp 31) = u31
          generalize ac.eval (.tmp 32) = u32
          generalize ac.eval (.tmp 33) = u33
          generalize ac.eval (.tmp 34) = u34
          generalize ac.eval (.tmp 35) = u35
          generalize ac.eval (.tmp 36) = u36
          generalize ac.eval (.tmp 37) = u37
          generalize ac.eval (.tmp 38) = u38
          clear  hT hF ac
          have hfin := hPh.2 rfl
          have HFI := Lib.hid (And.intro hfin.1 (HBEL.out.trans hfin.2))
          clear hPh hfin
          go_wp2
          exact ⟨⟨i + 1, Y, _, by simp, by rw [← Hk.out]; omega, by simp; omega, HLD2.out, HFI.out.1, HFI.out.2⟩, by simp [intOf]; omega⟩
    · have hik' : ¬ (i : Int) < (k : Int) := by omega
      obtain rfl : k = i := by omega
      rw [List.drop_eq_nil_of_le (by rw [HPk.out]; exact Nat.le_refl _), Tree.wayL_nil, List.append_nil] at hLD
      obtain ⟨v, hv, ho⟩ := hwc.row
      have hcv : wr.cell? ⟨tp, 0, none⟩ = some v := cell_of hv 0
      obtain ⟨va', vc', rfl⟩ := ho.texts.slice
      have HF := Lib.hid (And.intro ho hbel)
      have HLD := Lib.hid hLD
      clear hv ho hLD hwc hbel
      go_wp2
      go_ret
      refine ⟨_, rfl, ?_⟩
      rw [← Hq.out, ← HLD.out]
      exact HF.out
end Go.Proofs.YtdcebdleneieeaaDoor
