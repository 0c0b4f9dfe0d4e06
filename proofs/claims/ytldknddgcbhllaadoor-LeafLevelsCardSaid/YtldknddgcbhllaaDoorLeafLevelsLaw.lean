/-
  LeafLevels: the rows are as the document says, and what was handed in stays, whatever is done to the rows. For all hashes (the first 20 of them); the numbers K of the package sha are as the program's own start lays them.
-/
import Derived.Test.YtldknddgcbhllaaDoorLeafLaw
import Derived.Test.YtldknddgcbhllaaDoorRegLe
namespace Go.Proofs.YtldknddgcbhllaaDoor.leafLevels
open Go.ChangeShapes Go.WideShapes Go.ChangeAt Go.RowKit

theorem levels_rows (l : Hs) (h : l.length ≤ 20) : ∀ (i : Nat) (cur : Hs), (Tree.levels l)[i]? = some cur → cur.length ≤ 20 := by
  suffices hh : ∀ n (l : Hs), l.length ≤ n → ∀ (i : Nat) (cur : Hs), (Tree.levels l)[i]? = some cur → cur.length ≤ n from hh 20 l h
  intro n
  induction n with
  | zero =>
    intro l h i cur hc
    rw [Tree.levels_small (by omega)] at hc
    obtain rfl := List.mem_singleton.1 (List.mem_of_getElem? hc)
    exact h
  | succ n ih =>
    intro l h i cur hc
    by_cases h1 : l.length ≤ 1
    · rw [Tree.levels_small h1] at hc
      obtain rfl := List.mem_singleton.1 (List.mem_of_getElem? hc)
      exact h
    · have hu := Tree.up_length l
      rw [Tree.levels_go (by omega)] at hc
      cases i with
      | zero => simp at hc; subst hc; exact h
      | succ i =>
        have := ih (Tree.up l) (by omega) i cur (by simpa using hc)
        omega
/-- Where a row of a call's own lies. -/
theorem own_block {B : Nat} {w : World} {v : Value} {l : Hs} (h : OwnS B w v l) : (v = .slice none 0 0 ∧ l = []) ∨ ∃ g cap cs, v = .slice (some ⟨g, 0, none⟩) l.length cap ∧ B ≤ g ∧ w.heap[g]? = some (.cells (List.toArray cs) 23 (0, 0)) ∧ l.length * 32 ≤ cs.length := by
  rcases h.1.2 with ⟨e, h0⟩ | ⟨g, cap, cur, e, hB, hg, hn, _, hs, _⟩
  · exact .inl ⟨e, List.eq_nil_of_length_eq_zero h0⟩
  · exact .inr ⟨g, cap, cur.toList, e, hB, by rw [hg], by have := Array.length_toList (xs := cur); omega⟩
theorem build_zero (w : World) : (Instr.build 23 #[]).run Tryd.prog w = .ok (sumV (List.replicate 32 0)) w := by
  go_simp
  rfl
/-- How the world goes on where nothing but block q is turned, and that keeps its shape. -/
def leQ (q : Nat) (w w' : World) : Prop := Only q w w' ∧ ∀ cs : List Value, w.heap[q]? = some (.cells cs.toArray 23 (0, 0)) → ∃ cs' : List Value, w'.heap[q]? = some (.cells cs'.toArray 23 (0, 0)) ∧ cs'.length = cs.length
theorem leQ_refl (q : Nat) (w : World) : leQ q w w := ⟨Only.refl _ _, fun cs h => ⟨cs, h, rfl⟩⟩
theorem leQ_trans {q : Nat} {u v w : World} (h : leQ q u v) (k : leQ q v w) : leQ q u w := ⟨h.1.trans k.1, fun cs hc => by
  obtain ⟨c2, h2, l2⟩ := h.2 cs hc
  obtain ⟨c3, h3, l3⟩ := k.2 c2 h2
  exact ⟨c3, h3, l3.trans l2⟩⟩
theorem leQ_store {q o : Nat} {w : World} {cs : List Value} (h : w.heap[q]? = some (.cells cs.toArray 23 (0, 0))) (ho : o + 32 ≤ cs.length) : leQ q w (w.setCells q o ((List.replicate 32 (0 : UInt8)).map u8V)) := by
  refine ⟨only_setCells _ _ _ (Only.refl _ _), fun c2 h2 => ?_⟩
  have e : cs = c2 := by
    rw [h] at h2
    simp at h2
    exact h2
  subst e
  refine ⟨_, heap_setCells q _ _ o cs w (by simp; omega) h, ?_⟩
  simp
  omega
/-- What holds ahead of row i. -/
structure LInv (w2 w3 : World) (g : Nat) (vs vt : List Value) (vb : Value) (L : List Hs) (i : Nat) (wr : World) : Prop where
  old : Below w2.heap.size w2 wr
  more : w3.heap.size ≤ wr.heap.size
  spine : ∀ (j : Nat) (x : Value), vs[j]? = some x → wr.cell? ⟨g, j, none⟩ = some x
  rows : ∀ (j : Nat) (x : Value) (l : Hs), i ≤ j → vs[j]? = some x → L[j]? = some l → OwnS w2.heap.size wr x l
  twin : RowsAt w3.heap.size wr vb vt L
/-- Row i is turned: what holds ahead of the next one. -/
theorem LInv.next {w2 w3 : World} {g : Nat} {vs vt : List Value} {vb : Value} {L : List Hs} {i q : Nat} {wi wr : World} (h : LInv w2 w3 g vs vt vb L i wi) (ho : Only q wi wr) (hq2 : w2.heap.size ≤ q) (hg : g ≠ q) (hgl : g < wi.heap.size) (hq3 : ∀ k, w3.heap.size ≤ k → k < wi.heap.size → k ≠ q)
    (hrow : ∀ (j : Nat) (x : Value) (b : Nat), i < j → vs[j]? = some x → x.ownBlock = some b → b ≠ q) : LInv w2 w3 g vs vt vb L (i + 1) wr :=
  ⟨h.old.trans (ho.below hq2 h.old.size), Nat.le_trans h.more ho.size, fun j x hx => (ho.cell hgl hg).trans (h.spine j x hx), fun j x l hj hx hl => (h.rows j x l (by omega) hx hl).kept' fun b hb => ho.block b ((h.rows j x l (by omega) hx hl).lt b hb).2 (hrow j x b (by omega) hx hb),
    h.twin.kept fun b hb hb3 => ho.block b hb (hq3 b hb3 hb)⟩
/-- Ahead of hash k of row i. -/
def InRel (n q : Nat) (wi : World) (s10 : Value) (wr : World) : Prop :=
  ∃ k : Nat, s10 = .int .i64 (k : Int) ∧ k ≤ n ∧ Only q wi wr ∧ (0 < n → ∃ cs : List Value, wr.heap[q]? = some (.cells cs.toArray 23 (0, 0)) ∧ n * 32 ≤ cs.length)
set_option maxHeartbeats 8000000 in
set_option maxRecDepth 100000 in
theorem walk {w : World} (hK : KT w) (v : Value) (l : Hs) (hv : Sums w v l) :
    Calls Tryd.prog 5 #[v] w fun e w' => e = .returned (.bool true) ∧ Below w.heap.size w w' := by
  have HAW := Lib.hid (awake9_any w hK)
  have HV := Lib.hid hv
  have HKW := Lib.hid hK
  obtain ⟨m, hm⟩ : ∃ m : Hs, m = l.take 20 := ⟨_, rfl⟩
  have hml : m.length ≤ 20 := by rw [hm, List.length_take]; omega
  have Hm := Lib.hid hm
  clear hm hv hK
  go_enter Tryd.func5, Tryd.ntmps5
  go_upto_region 7 with (first
    | (go_at_call 10; ((with_reducible refine HAW.out.mono ?_); rintro e w1 ⟨rfl, b1⟩))
    | (go_at_call 17; refine (few9_any _ l _ (HV.out.old b1)).mono ?_; rintro e wf ⟨v6, rfl, h6, rfl⟩; rw [← Hm.out] at h6; obtain ⟨v9, w2, hr9, ho9, b9⟩ := sappend_own (B := w1.heap.size) 29 (OwnS.nil _ w1) h6.1 (Nat.le_refl _) (by simp; omega); rw [List.nil_append] at ho9; have HR9 := Lib.hid hr9; have HO9 := Lib.hid ho9; have H6 := Lib.hid h6; clear hr9 ho9 h6)
    | (at_builtin; refine Lib.wpList_append_run _ rfl _ _ _ _ rfl _ _ rfl rfl _ _ HR9.out ?_)
    | (go_at_call 22; refine (levels_any v6 m w2 (H6.out.1.old b9) ((HKW.out.old b1).old b9) (by omega)).mono ?_; rintro e w3 ⟨v7, vs, rfl, hRa, b3⟩; have HRa := Lib.hid hRa; clear hRa)
    | (go_at_call 23; refine (rlevels_any v6 m w3 ((H6.out.1.old b9).old b3) (by omega)).mono ?_; rintro e w4 ⟨v8, vt, rfl, hRb, b4⟩; have HRb := Lib.hid hRb; clear hRb))
  obtain ⟨L, hL⟩ : ∃ L, L = Tree.levels m := ⟨_, rfl⟩
  have hRa := HRa.out
  have hRb := HRb.out
  rw [← hL] at hRa hRb
  have hN63 : L.length ≤ 9223372036854775800 := by rw [hL]; exact levels_few m hml
  have hne : 0 < L.length := by rw [hL]; exact List.length_pos_iff.2 (Tree.levels_ne m)
  have hla := hRa.len
  have hlb := hRb.len
  obtain ⟨g, ca, rfl, hg2, hg, hca⟩ := hRa.open_ (by omega)
  obtain ⟨h, cb, rfl, -, -, -⟩ := hRb.open_ (by omega)
  have hLen4 : LInv w2 w3 g vs vt (.slice (some ⟨h, 0, none⟩) vt.length cb) L 0 w4 := ⟨b3.trans (b4.mono b3.size), b4.size, fun j x hx => (b4.cell (p := ⟨g, j, none⟩) hg).trans (hca j x hx), fun j x l _ hx hl => (hRa.row j x l hx hl).kept b4, hRb⟩
  obtain ⟨N, hN⟩ : ∃ N, N = L.length := ⟨_, rfl⟩
  have hva : vs.length = N := by omega
  have hvb : vt.length = N := by omega
  rw [hvb] at hLen4
  rw [hva, hvb]
  have HA := Lib.hid hRa
  have HL := Lib.hid hL
  have HLI := Lib.hid hLen4
  have HN := Lib.hid hN
  have Hva := Lib.hid hva
  have Hvb := Lib.hid hvb
  have hN63' : N ≤ 9223372036854775800 := by omega
  have bw2 := below_step b1 (Nat.le_refl _) b9
  have hbw : w.heap.size ≤ w2.heap.size := bw2.size
  obtain ⟨a9, c9, rfl, _, _⟩ := HO9.out.sums.slice
  obtain ⟨a6, c6, rfl, _, _⟩ := H6.out.1.slice
  clear hRa hRb hL hne hla hlb hca hLen4 hN hva hvb hN63 HRa HRb b3 b4
  go_wp2
  go_loopw [8] (fun s8 wr => ∃ i : Nat, s8 = .int .i64 (i : Int) ∧ i ≤ N ∧ LInv w2 w3 g vs vt (.slice (some ⟨h, 0, none⟩) N cb) L i wr) (fun s8 _ => N - (intOf s8).toNat)
  case atStart => exact ⟨0, rfl, by omega, HLI.out⟩
  case round =>
    obtain ⟨i, rfl, hi, hinv⟩ := hrel
    by_cases hiN : i < N
    · have hiN' : (i : Int) < (N : Int) := by omega
      have hw1 := IntWalk.i64_in ((i : Int) + 1) (by omega)
      obtain ⟨cur, hcu⟩ : ∃ cur, L[i]? = some cur := ⟨_, List.getElem?_eq_getElem (by rw [← HN.out]; exact hiN)⟩
      obtain ⟨x, hx, hox0⟩ := HA.out.at_ hcu
      have hox := hinv.rows i x cur (Nat.le_refl _) hx hcu
      obtain ⟨y, hy, hoy⟩ := hinv.twin.at_ hcu
      obtain ⟨n, hn⟩ : ∃ n, n = cur.length := ⟨_, rfl⟩
      have hgl : g < wr.heap.size := Nat.lt_of_lt_of_le hg hinv.more
      -- where row i lies
      obtain ⟨q, hq2, hgq, hq3, hrow, hqc, hqx⟩ : ∃ q, w2.heap.size ≤ q ∧ g ≠ q ∧ (∀ k, w3.heap.size ≤ k → k < wr.heap.size → k ≠ q) ∧ (∀ (j : Nat) (x : Value) (b : Nat), i < j → vs[j]? = some x → x.ownBlock = some b → b ≠ q) ∧ (0 < n → ∃ cs : List Value, wr.heap[q]? = some (.cells cs.toArray 23 (0, 0)) ∧ n * 32 ≤ cs.length) ∧ (0 < n → ∃ cap, x = .slice (some ⟨q, 0, none⟩) n cap) := by
        rcases own_block hox with ⟨e, e0⟩ | ⟨q, cap, cs, e, hq, hh, hl⟩
        · refine ⟨wr.heap.size, hinv.old.size, by omega, fun k _ hk => by omega, fun j z b hj hz hb => ?_, fun h0 => by rw [hn, e0] at h0; simp at h0, fun h0 => by rw [hn, e0] at h0; simp at h0⟩
          have hjl := (List.getElem?_eq_some_iff.1 hz).1
          obtain ⟨lj, hlj⟩ : ∃ lj, L[j]? = some lj := ⟨_, List.getElem?_eq_getElem (by rw [← HN.out, ← Hva.out]; exact hjl)⟩
          have := ((hinv.rows j z lj (by omega) hz hlj).lt b hb).2
          omega
        · have hob : x.ownBlock = some q := by rw [e]; rfl
          have hq3 := (HA.out.lt i x q hx hob).2
          exact ⟨q, hq, fun e' => HA.out.away i x q hx hob (by rw [← e']; rfl), fun k hk _ => by omega, fun j z b hj hz hb e' => by
            subst e'
            have := HA.out.apart i j x z b hx hz hob hb
            omega, fun _ => ⟨cs, hh, by rw [hn]; exact hl⟩, fun _ => ⟨cap, by rw [hn]; exact e⟩⟩
      obtain ⟨xa, xc, rfl, _, _⟩ := hox.sums.slice
      obtain ⟨ya, yc, rfl, _, _⟩ := hoy.sums.slice
      have hci := hinv.spine i _ hx
      obtain ⟨_, _, he, _, hhw, hhc⟩ := hinv.twin.open_ (by rw [Hvb.out]; omega)
      injection he with he e2 e3
      injection he with he
      injection he with he e4 e5
      subst he
      clear e2 e3 e4 e5
      have hdi := hhc i _ hy
      have hgw := hgl
      have hsx := hox.sums
      have hsy := hoy.sums
      have hcl : cur.length ≤ 1000 := by
        have := levels_rows m hml i cur (by rw [← HL.out]; exact hcu)
        omega
      rw [← hn] at hci hdi hsx hsy hqx
      have HSM : Hid (∀ u : World, Below wr.heap.size wr u → Calls Tryd.prog 24 #[.slice xa n xc, .slice ya n yc] u fun e w' => e = .returned (.bool true) ∧ Below u.heap.size u w') := Lib.hid fun u hu => by
        have := same_any _ _ cur cur u (hsx.old hu) (hsy.old hu) hcl
        rwa [decide_eq_true rfl] at this
      have Hn := Lib.hid hn
      have HI := Lib.hid hinv
      have Hgq := Lib.hid hgq
      have Hq3 := Lib.hid hq3
      have Hrow := Lib.hid hrow
      have Hqc := Lib.hid hqc
      have Hqx := Lib.hid hqx
      have hn20 : n ≤ 1000 := by omega
      clear hn hinv hgq hq3 hrow hqc hqx hx hy hox0 hox hoy hsx hsy hcu hcl hhc
      go_upto_region 12 with (fail)
      try simp only [Act.put]
      refine wp_region_tab [RT.is (.slice (some ⟨g, 0, none⟩) N ca), RT.is (.int .i64 (i : Int)), RT.is (.pointer (some ⟨g, i, none⟩)), RT.is (.slice xa n xc), RT.is (.slice (some ⟨h, 0, none⟩) N cb), RT.is (.int .i64 (i : Int)), RT.is (.pointer (some ⟨h, i, none⟩)), RT.is (.slice ya n yc), RT.is (.bool true), RT.is (.bool true)] (by kernel_rfl) (by kernel_rfl) (by kernel_rfl) (by kernel_rfl) ⟨?_, ?_, ?_, ?_, ?_, ?_, ?_, ?_, ?_, ?_, trivial⟩ ?_
      · intro ac w' hF hL hP hU K hK
        have hB := below_undrew hL
        have e6 : ac.eval (.tmp 6) = .slice (some ⟨g, 0, none⟩) N ca := hF.at 6 (by kernel_rfl)
        exact rop_move _ rfl e6 (wanted_none rfl) (hK _ _ (le8_refl _) rfl)
      · intro ac w' hF hL hP hU K hK
        have hB := below_undrew hL
        have e8 : ac.eval (.tmp 8) = .int .i64 (i : Int) := hF.at 8 (by kernel_rfl)
        exact rop_move _ rfl e8 (wanted_none rfl) (hK _ _ (le8_refl _) rfl)
      · intro ac w' hF hL hP hU K hK
        have hB := below_undrew hL
        have e33 : ac.eval (.tmp 33) = .slice (some ⟨g, 0, none⟩) N ca := hP 0 (by kernel_rfl)
        have e34 : ac.eval (.tmp 34) = .int .i64 (i : Int) := hP 1 (by kernel_rfl)
        exact rop_idx _ _ _ rfl e33 e34 (index_rows g N ca i _ rfl hiN w') (wanted_none rfl) (hK _ _ (le8_refl _) rfl)
      · intro ac w' hF hL hP hU K hK
        have hB := below_undrew hL
        have e35 : ac.eval (.tmp 35) = .pointer (some ⟨g, i, none⟩) := hP 2 (by kernel_rfl)
        exact rop_ld _ _ rfl e35 (load_sumsl ((hB.cell (p := ⟨g, i, none⟩) hgw).trans hci)) (wanted_none rfl) (hK _ _ (le8_refl _) rfl)
      · intro ac w' hF hL hP hU K hK
        have hB := below_undrew hL
        have e7 : ac.eval (.tmp 7) = .slice (some ⟨h, 0, none⟩) N cb := hF.at 7 (by kernel_rfl)
        exact rop_move _ rfl e7 (wanted_none rfl) (hK _ _ (le8_refl _) rfl)
      · intro ac w' hF hL hP hU K hK
        have hB := below_undrew hL
        have e8 : ac.eval (.tmp 8) = .int .i64 (i : Int) := hF.at 8 (by kernel_rfl)
        exact rop_move _ rfl e8 (wanted_none rfl) (hK _ _ (le8_refl _) rfl)
      · intro ac w' hF hL hP hU K hK
        have hB := below_undrew hL
        have e37 : ac.eval (.tmp 37) = .slice (some ⟨h, 0, none⟩) N cb := hP 4 (by kernel_rfl)
        have e38 : ac.eval (.tmp 38) = .int .i64 (i : Int) := hP 5 (by kernel_rfl)
        exact rop_idx _ _ _ rfl e37 e38 (index_rows h N cb i _ rfl hiN w') (wanted_none rfl) (hK _ _ (le8_refl _) rfl)
      · intro ac w' hF hL hP hU K hK
        have hB := below_undrew hL
        have e39 : ac.eval (.tmp 39) = .pointer (some ⟨h, i, none⟩) := hP 6 (by kernel_rfl)
        exact rop_ld _ _ rfl e39 (load_sumsl ((hB.cell (p := ⟨h, i, none⟩) hhw).trans hdi)) (wanted_none rfl) (hK _ _ (le8_refl _) rfl)
      · intro ac w' hF hL hP hU K hK
        have hB := below_undrew hL
        have e36 : ac.eval (.tmp 36) = .slice xa n xc := hP 3 (by kernel_rfl)
        have e40 : ac.eval (.tmp 40) = .slice ya n yc := hP 7 (by kernel_rfl)
        refine rop_call 24 _ _ rfl #[.slice xa n xc, .slice ya n yc] (by simp [e36, e40]) (by kernel_rfl) (wanted_none rfl) ?_
        refine (HSM.out w' hB).mono ?_
        rintro e w2 ⟨rfl, hb⟩
        exact ⟨_, rfl, hK _ _ hb rfl⟩
      · intro ac w' hF hL hP hU K hK
        have hB := below_undrew hL
        have e41 : ac.eval (.tmp 41) = .bool true := hP 8 (by kernel_rfl)
        exact rop_assign _ rfl e41 (wanted_none rfl) (hK _ _ (le8_refl _) rfl)
      · intro ac w' hF hB hT
        have e9 : ac.eval (.tmp 9) = .bool true := hT 9 (by decide)
        rw [hF.setsG [33, 34, 35, 36, 37, 38, 39, 40, 41, 9] (by kernel_rfl)]
        simp only [List.foldl_cons, List.foldl_nil, List.setIfInBounds_toArray, List.set_cons_succ, List.set_cons_zero, e9]
        generalize ac.eval (.tmp 33) = u33
        generalize ac.eval (.tmp 34) = u34
        generalize ac.eval (.tmp 35) = u35
        generalize ac.eval (.tmp 36) = u36
        generalize ac.eval (.tmp 37) = u37
        generalize ac.eval (.tmp 38) = u38
        generalize ac.eval (.tmp 39) = u39
        generalize ac.eval (.tmp 40) = u40
        generalize ac.eval (.tmp 41) = u41
        clear e9 hT hF ac
        -- behind Same: the row is turned, hash by hash
        obtain ⟨W, hW⟩ : ∃ W, W = w' := ⟨_, rfl⟩
        subst hW
        have hoW : Only q wr W := Only.of_below hB
        have hciW := (hB.cell (p := ⟨g, i, none⟩) hgw).trans hci
        have hqcW : Hid (0 < n → ∃ cs : List Value, W.heap[q]? = some (.cells cs.toArray 23 (0, 0)) ∧ n * 32 ≤ cs.length) := Lib.hid fun h0 => by
          obtain ⟨cs, h1, h2⟩ := Hqc.out h0
          exact ⟨cs, (hB.block q (Array.getElem?_eq_some_iff.1 h1).1).trans h1, h2⟩
        have hgW : g < W.heap.size := Nat.lt_of_lt_of_le hgw hB.size
        clear hB hci hdi
        go_wp2
        go_loopw [10] (fun s10 wr2 => InRel n q W s10 wr2) (fun s10 _ => n - (intOf s10).toNat)
        case atStart => exact ⟨0, rfl, by omega, Only.refl _ _, hqcW.out⟩
        case round =>
          obtain ⟨k, rfl, hk, ho, hc⟩ := hrel
          by_cases hkn : k < n
          · have hkn' : (k : Int) < (n : Int) := by omega
            have hw2 := IntWalk.i64_in ((k : Int) + 1) (by omega)
            obtain ⟨cap, hx⟩ := Hqx.out (by omega)
            injection hx with e1 _ e3
            subst e1 e3
            obtain ⟨cs, hh, hl⟩ := hc (by omega)
            have hci2 := (ho.cell hgW Hgq.out).trans hciW
            have hgl2 := Nat.lt_of_lt_of_le hgW ho.size
            have HO := Lib.hid ho
            clear hc ho
            go_upto_region 18 with (fail)
            try simp only [Act.put]
            refine wp_region_le0 (Lx := leQ q) (leQ_refl q _) (leQ_trans) [RX.is (.slice (some ⟨g, 0, none⟩) N ca), RX.is (.int .i64 (i : Int)), RX.is (.pointer (some ⟨g, i, none⟩)), RX.is (.slice (some ⟨q, 0, none⟩) n xc), RX.is (.int .i64 (k : Int)), RX.is (sumV (List.replicate 32 0)), RX.is (.pointer (some ⟨q, 0 + k * 32, none⟩)), RX.any] (by kernel_rfl) (by kernel_rfl) (by kernel_rfl) ⟨?_, ?_, ?_, ?_, ?_, ?_, ?_, ?_, trivial⟩ ?_
            · intro ac w' hF hL hP hU K hK
              have e6 : ac.eval (.tmp 6) = .slice (some ⟨g, 0, none⟩) N ca := hF.at 6 (by kernel_rfl)
              exact rop_move _ rfl e6 (wanted_none rfl) (hK _ _ (leQ_refl q _) rfl)
            · intro ac w' hF hL hP hU K hK
              have e8 : ac.eval (.tmp 8) = .int .i64 (i : Int) := hF.at 8 (by kernel_rfl)
              exact rop_move _ rfl e8 (wanted_none rfl) (hK _ _ (leQ_refl q _) rfl)
            · intro ac w' hF hL hP hU K hK
              have e53 : ac.eval (.tmp 53) = .slice (some ⟨g, 0, none⟩) N ca := hP 0 (by kernel_rfl)
              have e54 : ac.eval (.tmp 54) = .int .i64 (i : Int) := hP 1 (by kernel_rfl)
              exact rop_idx _ _ _ rfl e53 e54 (index_rows g N ca i _ rfl hiN w') (wanted_none rfl) (hK _ _ (leQ_refl q _) rfl)
            · intro ac w' hF hL hP hU K hK
              have e55 : ac.eval (.tmp 55) = .pointer (some ⟨g, i, none⟩) := hP 2 (by kernel_rfl)
              exact rop_ld _ _ rfl e55 (load_sumsl ((hL.1.cell hgl2 Hgq.out).trans hci2)) (wanted_none rfl) (hK _ _ (leQ_refl q _) rfl)
            · intro ac w' hF hL hP hU K hK
              have e10 : ac.eval (.tmp 10) = .int .i64 (k : Int) := hF.at 10 (by kernel_rfl)
              exact rop_move _ rfl e10 (wanted_none rfl) (hK _ _ (leQ_refl q _) rfl)
            · intro ac w' hF hL hP hU K hK
              exact rop_v (wanted_none rfl) (by simp [execOp, build_zero]; rfl) (hK _ _ (leQ_refl q _) rfl)
            · intro ac w' hF hL hP hU K hK
              have e56 : ac.eval (.tmp 56) = .slice (some ⟨q, 0, none⟩) n xc := hP 3 (by kernel_rfl)
              have e57 : ac.eval (.tmp 57) = .int .i64 (k : Int) := hP 4 (by kernel_rfl)
              exact rop_idx _ _ _ rfl e56 e57 (index_sums q 0 n xc k hkn w') (wanted_none rfl) (hK _ _ (leQ_refl q _) rfl)
            · intro ac w' hF hL hP hU K hK
              have e59 : ac.eval (.tmp 59) = .pointer (some ⟨q, 0 + k * 32, none⟩) := hP 6 (by kernel_rfl)
              have e58 : ac.eval (.tmp 58) = sumV (List.replicate 32 0) := hP 5 (by kernel_rfl)
              obtain ⟨cs2, hh2, hl2⟩ := hL.2 cs hh
              have hth := there_of (b := q) (o := 0 + k * 32) (n := 32) hh2 (by omega)
              exact rop_storeG _ _ _ rfl e59 e58 (run_storeAt_mid w' q (0 + k * 32) _ _ (by simpa using hth) (sum_info (List.length_replicate ..)) (sum_one _)) (wanted_none rfl) (hK _ _ (leQ_store hh2 (by omega)) trivial)
            · intro ac w' hF hL hT
              rw [hF.setsG [53, 54, 55, 56, 57, 58, 59] (by kernel_rfl)]
              simp only [List.foldl_cons, List.foldl_nil, List.setIfInBounds_toArray, List.set_cons_succ, List.set_cons_zero]
              generalize ac.eval (.tmp 53) = u53
              generalize ac.eval (.tmp 54) = u54
              generalize ac.eval (.tmp 55) = u55
              generalize ac.eval (.tmp 56) = u56
              generalize ac.eval (.tmp 57) = u57
              generalize ac.eval (.tmp 58) = u58
              generalize ac.eval (.tmp 59) = u59
              clear  hT hF ac
              obtain ⟨hL1, hL2⟩ := hL
              obtain ⟨cs2, hh2, hl2⟩ := hL2 cs hh
              go_wp2
              refine ⟨⟨k + 1, by simp, by omega, HO.out.trans hL1, fun _ => ⟨cs2, hh2, by omega⟩⟩, ?_⟩
              simp [intOf]
              omega
          · have hkn' : ¬ (k : Int) < (n : Int) := by omega
            have hci2 := (ho.cell hgW Hgq.out).trans hciW
            have hnx := HI.out.next (hoW.trans ho) hq2 Hgq.out hgl Hq3.out Hrow.out
            have HNX := Lib.hid hnx
            clear hnx hc ho
            go_wp2
            refine ⟨⟨i + 1, by simp, by omega, HNX.out⟩, ?_⟩
            simp [intOf]
            omega
    · have hiN' : ¬ (i : Int) < (N : Int) := by omega
      have hsm := (H6.out.keep (b9.trans (hinv.old.mono b9.size))).1
      have hsh := (HO9.out.kept hinv.old).sums
      have hsame := same_any _ _ m m wr hsm hsh (by omega)
      rw [decide_eq_true rfl] at hsame
      have HSF := Lib.hid hsame
      have hbel := below_step bw2 (Nat.le_refl _) hinv.old
      clear hsm hsh hsame hinv
      go_wp2_with (go_at_call 24; ((with_reducible refine HSF.out.mono ?_); rintro e wz ⟨rfl, bz⟩))
      go_ret
      exact ⟨rfl, below_step hbel (Nat.le_refl _) bz⟩

set_option maxRecDepth 100000 in
theorem lifted (os : Os) (started : os.Started) (H : Type) (enc : TypeId × Value → H) :
    ReturnsInHanded {} Tryd.checked os 5 .any (fun w args => (Rows.leafLevelsSpec.pre enc Tryd.prog Tryd.f5 [] false w args ∧ laidMetH Tryd.prog [("scrinium/sha.k", Rows.laid_scrinium_sha_k)] w) ∧ sizedMet enc Tryd.prog Tryd.f5 (OpenSpec.ofChange Rows.leafLevelsSpec) false w args)
      (Rows.leafLevelsSpec.post enc Tryd.prog Tryd.f5 false true false false) := by
  refine returnsInHanded_of_change_and (C := Tryd.checked) (X := fun w _ => laidMetH Tryd.prog [("scrinium/sha.k", Rows.laid_scrinium_sha_k)] w) (fun _ _ _ hh h => h.of_heap hh) lawOwn started (by kernel_rfl) Tryd.func5
    (ChangeSpec.witness_shaped (enc := enc) (C := Tryd.checked) (os := os) (X := fun w _ => laidMetH Tryd.prog [("scrinium/sha.k", Rows.laid_scrinium_sha_k)] w) false (World.doorLaid Tryd.prog 400 os) #[.slice none 0 0] 8 rfl (World.shaped_of_RefB (by kernel_rfl) (by kernel_rfl)) (by kernel_rfl) (by kernel_rfl) (by kernel_rfl) (door_met os _)) ?_
  intro W base args ds gs before hval0 hW _ _ hL _
  have hval : ∀ (j : Nat) t v, Tryd.f5.params[j]? = some t → args[j]? = some v → Value.okWide Tryd.prog W .any base t v := hval0
  have hW' := hW
  obtain ⟨p, q, hA0, hV, rfl, hfz, hnd⟩ := hW
  have hA : DataW.TrodAll enc Tryd.prog W 0 (fun _ => true) true Tryd.f5.params.toList args.toList ds p := hA0
  rw [Tryd.params5] at hA hval
  obtain ⟨v0, vs0, d0, ds0, p0, q0, hargs, rfl, rfl, h0, r0⟩ := trodAll_cons hA
  obtain ⟨rfl, rfl, rfl⟩ := trodAll_nil r0
  obtain rfl : args = #[v0] := by cases args; simp_all
  obtain ⟨rfl, rfl⟩ := trodVars_none hV
  have hKT := KT_of_laid hL
  obtain ⟨a0, len0, cap0, rfl⟩ := okWide_slice Tryd.underlying29 (hval 0 29 v0 rfl rfl)
  obtain ⟨l0, w0⟩ := sums_of h0
  clear hA0 hval0
  refine (walk (w := W) hKT _ l0 w0).mono fun e W' ⟨he, bel⟩ => ?_
  subst he
  exact ⟨_, rfl, law_post rfl rfl (by kernel_rfl) hW' rfl bel⟩

theorem row_holds : Rows.LeafLevelsSaid :=
  OpenClaim.holds_of_wide 5 Tryd.f5 rfl rfl rfl rfl rfl rfl rfl ⟨rfl, rfl, rfl, rfl, rfl⟩ rfl rfl rfl rfl rfl (by kernel_rfl) Tryd.func5 (by kernel_rfl)
    (of_decide_eq_true (by kernel_rfl)) (by unfold Func.isWrapper; first | (rw [if_pos (by decide +kernel)]; kernel_rfl) | (rw [if_neg (by decide +kernel)]; exact ⟨rfl, rfl⟩))
    (fun os started H enc _ => lifted os started H enc)

theorem holds : Rows.LeafLevelsCardSaid :=
  Claim7.holds_tied_plain_at .later [] [.data] true Rows.leafLevelsCard.stood.harness false
    row_holds (fun _ h => by cases h) (by kernel_rfl) (fun _ h => by cases h) leafLevels_row_tie rfl ⟨rfl, rfl⟩ (by kernel_rfl) rfl
    (fun f fn hf hfn => by
      obtain rfl : f = 5 := Option.some.inj ((show Tryd.prog.funcNamed "scrinium/scriniumlaw09.LeafLevels" = some 5 by kernel_rfl).symm.trans hf) |>.symm
      obtain rfl : fn = Tryd.f5 := (Option.some.inj (Tryd.func5.symm.trans hfn)).symm
      exact ⟨by kernel_rfl, fun j t ht => by
        rw [Tryd.params5] at ht
        have hm : t ∈ [29] := by simpa using Array.mem_of_getElem? ht
        have hall : ([29].all fun u => !Tryd.prog.wantsStandIn u) = true := by kernel_rfl
        exact (show Tryd.prog.wantsStandIn t = false by simpa using List.all_eq_true.1 hall t hm)⟩)
    (by kernel_rfl)
end Go.Proofs.YtldknddgcbhllaaDoor.leafLevels

theorem Go.Proofs.YtldknddgcbhllaaDoor.leafLevels_holds : Go.Proofs.YtldknddgcbhllaaDoor.Rows.LeafLevelsCardSaid := Go.Proofs.YtldknddgcbhllaaDoor.leafLevels.holds
#print axioms Go.Proofs.YtldknddgcbhllaaDoor.leafLevels_holds
