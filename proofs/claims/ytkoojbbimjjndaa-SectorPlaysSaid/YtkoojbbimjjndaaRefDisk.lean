/-
  The document's own disk (package scriniumref05): what it is in memory, and what its calls do.
-/
import Derived.Test.YtkoojbbimjjndaaDiskSettle
import Derived.Test.YtkoojbbimjjndaaSecFill
import Derived.Test.YtkoojbbimjjndaaDiskLast
namespace Go.Proofs.Ytkoojbbimjjndaa
open Go.RowKit Dsk

/-- The document's disk: what lies, the cache, no power, how many steps work still (below 0: not armed), how many were done. -/
structure Rk where
  L : List ByteArray
  cache : List (Nat × ByteArray)
  dark : Bool
  left : Int
  steps : Nat
/-- Block q is the document's disk, block ql the row of what lies (with spare cells J), rv the cache. -/
structure RefAt (q ql : Nat) (rv : Value) (J : List Value) (cap : Nat) (r : Rk) (w : World) : Prop where
  head : w.heap[q]? = some (.cells #[.slice (some ⟨ql, 0, none⟩) r.L.length cap, rv, .bool r.dark, .int .i64 r.left, .int .i64 r.steps] 49 (0, 0))
  rows : w.heap[ql]? = some (.cells (r.L.map Value.string ++ J).toArray 9 (0, 0))
  cache : CacheAt rv r.cache w
  fit : ∀ x ∈ r.cache, x.1 < r.L.length
  most : r.L.length ≤ 65536
  left : -1 ≤ r.left ∧ r.left ≤ 9223372036854775807
  steps : r.steps ≤ 1000000
  writes : r.cache.length ≤ 1000000

section
variable {q ql : Nat} {rv : Value} {J : List Value} {cap : Nat} {r : Rk} {w w' : World}
theorem RefAt.lt (h : RefAt q ql rv J cap r w) : q < w.heap.size := (Array.getElem?_eq_some_iff.1 h.head).1
theorem RefAt.ltl (h : RefAt q ql rv J cap r w) : ql < w.heap.size := (Array.getElem?_eq_some_iff.1 h.rows).1
theorem RefAt.ltc (h : RefAt q ql rv J cap r w) {k : Nat} (hk : rv.ownBlock = some k) : k < w.heap.size := (World.ownsRow.lt h.cache k hk).2
theorem RefAt.ql_ne (h : RefAt q ql rv J cap r w) : q ≠ ql := fun e => by
  have h1 := h.head; have h2 := h.rows
  rw [e, h2] at h1
  simp at h1
theorem RefAt.qc (h : RefAt q ql rv J cap r w) : rv.ownBlock ≠ some q := fun e => by
  obtain ⟨C, hC⟩ := CacheAt.type h.cache e
  have h1 := h.head
  rw [hC] at h1
  simp at h1
theorem RefAt.lc (h : RefAt q ql rv J cap r w) : rv.ownBlock ≠ some ql := fun e => by
  obtain ⟨C, hC⟩ := CacheAt.type h.cache e
  have h1 := h.rows
  rw [hC] at h1
  simp at h1
theorem RefAt.c0 (h : RefAt q ql rv J cap r w) : w.cell? ⟨q, 0, none⟩ = some (.slice (some ⟨ql, 0, none⟩) r.L.length cap) := cell_of h.head 0
theorem RefAt.c1 (h : RefAt q ql rv J cap r w) : w.cell? ⟨q, 1, none⟩ = some rv := cell_of h.head 1
theorem RefAt.c2 (h : RefAt q ql rv J cap r w) : w.cell? ⟨q, 2, none⟩ = some (.bool r.dark) := cell_of h.head 2
theorem RefAt.c3 (h : RefAt q ql rv J cap r w) : w.cell? ⟨q, 3, none⟩ = some (.int .i64 r.left) := cell_of h.head 3
theorem RefAt.c4 (h : RefAt q ql rv J cap r w) : w.cell? ⟨q, 4, none⟩ = some (.int .i64 r.steps) := cell_of h.head 4
theorem RefAt.fz (h : RefAt q ql rv J cap r w) (i : Nat) : w.frozen? ⟨q, i, none⟩ = false := fz_of h.head i
theorem RefAt.row (h : RefAt q ql rv J cap r w) (i : Nat) (hi : i < r.L.length) : w.cell? ⟨ql, i, none⟩ = some (.string (r.L.getD i .empty)) := by
  rw [cell_of h.rows, List.getElem?_toArray, List.getElem?_append_left (by simpa using hi)]
  simp [hi]
theorem RefAt.fzl (h : RefAt q ql rv J cap r w) (i : Nat) : w.frozen? ⟨ql, i, none⟩ = false := fz_of h.rows i
theorem RefAt.kept (h : RefAt q ql rv J cap r w) (hk : ∀ k, k < w.heap.size → fp q ql rv k → w'.heap[k]? = w.heap[k]?) : RefAt q ql rv J cap r w' :=
  ⟨(hk q h.lt (.inl rfl)).trans h.head, (hk ql h.ltl (.inr (.inl rfl))).trans h.rows, h.cache.kept fun k e => hk k (h.ltc e) (.inr (.inr e)), h.fit, h.most, h.left, h.steps, h.writes⟩
theorem RefAt.old (h : RefAt q ql rv J cap r w) (hb : Below w.heap.size w w') : RefAt q ql rv J cap r w' := h.kept fun k hk _ => hb.block k hk
theorem RefAt.rehead {r' : Rk} (h : RefAt q ql rv J cap r w) (ho : Only q w w') (hh : w'.heap[q]? = some (.cells #[.slice (some ⟨ql, 0, none⟩) r.L.length cap, rv, .bool r'.dark, .int .i64 r'.left, .int .i64 r'.steps] 49 (0, 0))) (h1 : r'.L = r.L) (h2 : r'.cache = r.cache)
    (hl : -1 ≤ r'.left ∧ r'.left ≤ 9223372036854775807) (hs : r'.steps ≤ 1000000) : RefAt q ql rv J cap r' w' :=
  ⟨by rw [h1]; exact hh, by rw [h1]; exact (ho.block ql h.ltl (Ne.symm h.ql_ne)).trans h.rows, by rw [h2]; exact h.cache.kept fun k e => ho.block k (h.ltc e) fun e' => h.qc (e' ▸ e), by intro x hx; rw [h2] at hx; rw [h1]; exact h.fit x hx, by rw [h1]; exact h.most, hl, hs, by rw [h2]; exact h.writes⟩
end

def rmay (r : Rk) : Bool := !r.dark && decide (r.left ≠ 0)
def rstep (r : Rk) : Rk := if r.dark then r else if r.left = 0 then ⟨r.L, r.cache, true, 0, r.steps⟩ else ⟨r.L, r.cache, false, if 0 < r.left then r.left - 1 else r.left, r.steps + 1⟩
set_option maxHeartbeats 800000 in
theorem rstep_any (q ql : Nat) (rv : Value) (J : List Value) (cap : Nat) (r : Rk) (w : World) (h : RefAt q ql rv J cap r w) (hs : r.steps < 1000000) :
    Calls Try.prog 46 #[.pointer (some ⟨q, 0, none⟩)] w fun e w' => e = .returned (.bool (rmay r)) ∧ RefAt q ql rv J cap (rstep r) w' ∧ Only q w w' := by
  have h2 := h.c2; have h3 := h.c3; have h4 := h.c4
  have f2 := h.fz 2; have f3 := h.fz 3; have f4 := h.fz 4
  have hh := h.head
  have hl := h.left
  have H := Lib.hid h
  clear h
  obtain ⟨L, C, dark, left, steps⟩ := r
  simp only at h2 h3 h4 hs hl
  cases dark with
  | true =>
    go_enter Try.func46, Try.ntmps46
    go_wp2
    go_ret
    exact ⟨rfl, H.out, Only.refl _ _⟩
  | false =>
    by_cases hz : left = 0
    · subst hz
      go_enter Try.func46, Try.ntmps46
      go_wp2
      go_ret
      have ho : Only q w (w.setCell ⟨q, 2, none⟩ (.bool true)) := (Only.refl _ _).setCell _ _
      exact ⟨rfl, H.out.rehead ho (heap_set hh _) rfl rfl hl (show steps ≤ 1000000 by omega), ho⟩
    · have em : rmay ⟨L, C, false, left, steps⟩ = true := by unfold rmay; simp [hz]
      by_cases hp : 0 < left
      · have er : rstep ⟨L, C, false, left, steps⟩ = ⟨L, C, false, left - 1, steps + 1⟩ := by
          unfold rstep
          rw [if_neg (by simp), if_neg hz, if_pos hp]
        rw [em, er]
        go_enter Try.func46, Try.ntmps46
        go_wp2
        go_ret
        have ho : Only q w ((w.setCell ⟨q, 3, none⟩ (.int .i64 (left - 1))).setCell ⟨q, 4, none⟩ (.int .i64 ((steps : Int) + 1))) := ((Only.refl _ _).setCell _ _).setCell _ _
        exact ⟨rfl, H.out.rehead ho (heap_set (heap_set hh _) _) rfl rfl (show -1 ≤ left - 1 ∧ left - 1 ≤ 9223372036854775807 by omega) (show steps + 1 ≤ 1000000 by omega), ho⟩
      · have er : rstep ⟨L, C, false, left, steps⟩ = ⟨L, C, false, left, steps + 1⟩ := by
          unfold rstep
          rw [if_neg (by simp), if_neg hz, if_neg hp]
        rw [em, er]
        go_enter Try.func46, Try.ntmps46
        go_wp2
        go_ret
        have ho : Only q w (w.setCell ⟨q, 4, none⟩ (.int .i64 ((steps : Int) + 1))) := (Only.refl _ _).setCell _ _
        exact ⟨rfl, H.out.rehead ho (heap_set hh _) rfl rfl hl (show steps + 1 ≤ 1000000 by omega), ho⟩
theorem rarm_any (q ql : Nat) (rv : Value) (J : List Value) (cap : Nat) (r : Rk) (n : Int) (w : World) (h : RefAt q ql rv J cap r w) (hn : n ≤ 9223372036854775807) :
    Calls Try.prog 22 #[.pointer (some ⟨q, 0, none⟩), .int .i64 n] w fun e w' => e = .returned (.tuple #[]) ∧ RefAt q ql rv J cap ⟨r.L, r.cache, r.dark, (n.toNat : Int), r.steps⟩ w' ∧ Only q w w' := by
  have h3 := h.c3
  have f3 := h.fz 3
  have hh := h.head
  have hs := h.steps
  have H := Lib.hid h
  clear h
  rcases (show n < 0 ∨ ∃ k : Nat, n = k by by_cases hx : n < 0; exact .inl hx; exact .inr ⟨n.toNat, by omega⟩) with hneg | ⟨k, rfl⟩
  · rw [show n.toNat = 0 by omega]
    go_enter Try.func22, Try.ntmps22
    go_wp2
    go_end0
    have ho : Only q w (w.setCell ⟨q, 3, none⟩ (.int .i64 0)) := (Only.refl _ _).setCell _ _
    exact ⟨rfl, H.out.rehead ho (heap_set hh _) rfl rfl (show (-1 : Int) ≤ ((0 : Nat) : Int) ∧ ((0 : Nat) : Int) ≤ 9223372036854775807 by omega) hs, ho⟩
  · rw [Int.toNat_natCast]
    have hk : ¬ (k : Int) < 0 := by omega
    go_enter Try.func22, Try.ntmps22
    go_wp2
    go_end0
    have ho : Only q w (w.setCell ⟨q, 3, none⟩ (.int .i64 (k : Int))) := (Only.refl _ _).setCell _ _
    exact ⟨rfl, H.out.rehead ho (heap_set hh _) rfl rfl (show (-1 : Int) ≤ (k : Int) ∧ (k : Int) ≤ 9223372036854775807 by omega) hs, ho⟩
def rreadS (r : Rk) (at_ : Int) : ByteArray := if hasB r.L.length at_ && !r.dark then rdK r.L r.cache at_.toNat r.cache.length else ⟨#[]⟩
def rreadE (r : Rk) (at_ : Int) : Int := if hasB r.L.length at_ then (if r.dark then 14 else 0) else 1
set_option maxHeartbeats 1600000 in
set_option maxRecDepth 100000 in
theorem rread_any (q ql : Nat) (rv : Value) (J : List Value) (cap : Nat) (r : Rk) (at_ : Int) (w : World) (h : RefAt q ql rv J cap r w) :
    Calls Try.prog 33 #[.pointer (some ⟨q, 0, none⟩), .int .i64 at_] w fun e w' => e = .returned (.tuple #[.string (rreadS r at_), .int .i64 (rreadE r at_)]) ∧ w = w' := by
  have h0 := h.c0
  have h1 := h.c1
  have h2 := h.c2
  have hm := h.most
  have hwr := h.writes
  obtain ⟨ca, ccap, hcv⟩ := h.cache.slice
  rw [hcv] at h1
  have hcc := h.cache.cells
  unfold rreadS rreadE
  cases hh : hasB r.L.length at_ with
  | false =>
    rw [Bool.false_and, if_neg Bool.false_ne_true, if_neg Bool.false_ne_true]
    have hh' := hh
    simp only [hasB, Bool.and_eq_false_iff, decide_eq_false_iff_not] at hh'
    by_cases hneg : at_ < 0
    · go_enter Try.func33, Try.ntmps33
      go_wp2
      go_ret2
      exact ⟨rfl, rfl⟩
    · have hge : (r.L.length : Int) ≤ at_ := by omega
      go_enter Try.func33, Try.ntmps33
      go_wp2
      go_ret2
      exact ⟨rfl, rfl⟩
  | true =>
    have hh' := hh
    simp only [hasB, Bool.and_eq_true, decide_eq_true_eq] at hh'
    obtain ⟨a, rfl⟩ : ∃ a : Nat, at_ = a := ⟨at_.toNat, by omega⟩
    have ha : a < r.L.length := by omega
    rw [Bool.true_and, if_pos rfl, Int.toNat_natCast]
    have hlt1 : ¬ (a : Int) < 0 := by omega
    have hlt2 : ¬ (r.L.length : Int) ≤ (a : Int) := by omega
    cases hd : r.dark with
    | true =>
      rw [hd] at h2
      go_enter Try.func33, Try.ntmps33
      go_wp2
      go_ret2
      exact ⟨rfl, rfl⟩
    | false =>
      rw [hd] at h2
      have hr := h.row a ha
      obtain ⟨S0, hS0⟩ : ∃ S0, S0 = r.L.getD a .empty := ⟨_, rfl⟩
      have hrd0 : rdK r.L r.cache a 0 = S0 := hS0.symm
      rw [← hS0] at hr
      have HR := Lib.hid hrd0
      have HC := Lib.hid hcc
      clear hS0 hrd0 h hh hh' hcc
      go_enter Try.func33, Try.ntmps33
      go_upto_region 7 with fail
      go_loopw [6, 7] (fun sv i wr => ∃ k : Nat, k ≤ r.cache.length ∧ i = .int .i64 k ∧ sv = .string (rdK r.L r.cache a k) ∧ w = wr) (fun _ i _ => r.cache.length - (intOf i).toNat)
      case atStart => exact ⟨0, Nat.zero_le _, rfl, by rw [HR.out], rfl⟩
      case round =>
        obtain ⟨k, hk, rfl, rfl, rfl⟩ := hrel
        by_cases hlt : k < r.cache.length
        · obtain ⟨g, cap', hcv', hgb, hglt, hcs⟩ := HC.out (fun e => by rw [e] at hlt; simp at hlt)
          rw [hcv] at hcv'
          injection hcv' with e1 e2 e3
          subst e1
          clear e2 e3
          obtain ⟨x0, x1⟩ := hcs k hlt
          have hstep : rdK r.L r.cache a (k + 1) = if (cAt r.cache k).1 = a then (cAt r.cache k).2 else rdK r.L r.cache a k := rfl
          obtain ⟨y, hy⟩ : ∃ y, y = cAt r.cache k := ⟨_, rfl⟩
          rw [← hy] at x0 x1 hstep
          obtain ⟨ya, ys⟩ := y
          simp only at x0 x1 hstep
          obtain ⟨Sk, hSk⟩ : ∃ Sk, Sk = rdK r.L r.cache a k := ⟨_, rfl⟩
          rw [← hSk] at hstep ⊢
          have HS := Lib.hid hstep
          clear hcs hgb hglt hy hstep hSk
          by_cases hya : ya = a
          · have hya' : (ya : Int) = (a : Int) := by omega
            have HY := Lib.hid hya
            clear hya
            go_wp2
            go_roundw
            case rel => first | exact ⟨k + 1, by omega, by go_num, by rw [HS.out, if_pos HY.out], rfl⟩ | exact ⟨k + 1, by omega, by go_num, by rw [HS.out, if_pos HY.out], trivial⟩ | (refine ⟨k + 1, by omega, by go_num, ?_⟩; rw [HS.out, if_pos HY.out])
            case measure => simp [intOf]; omega
          · have hya' : ¬ (ya : Int) = (a : Int) := by omega
            have HY := Lib.hid hya
            clear hya
            go_wp2
            go_roundw
            case rel => first | exact ⟨k + 1, by omega, by go_num, by rw [HS.out, if_neg HY.out], rfl⟩ | exact ⟨k + 1, by omega, by go_num, by rw [HS.out, if_neg HY.out], trivial⟩ | (refine ⟨k + 1, by omega, by go_num, ?_⟩; rw [HS.out, if_neg HY.out])
            case measure => simp [intOf]; omega
        · obtain rfl : k = r.cache.length := by omega
          obtain ⟨Sk, hSk⟩ : ∃ Sk, Sk = rdK r.L r.cache a r.cache.length := ⟨_, rfl⟩
          rw [← hSk]
          have HS := Lib.hid hSk
          clear hSk
          go_wp2
          go_ret2
          exact ⟨by rw [← HS.out]; rfl, rfl⟩

def rok (r : Rk) (at_ : Int) (s : ByteArray) : Bool := hasB r.L.length at_ && decide (s.size = 256)
def rput (r : Rk) (a : Nat) (s : ByteArray) : Rk := ⟨r.L, r.cache ++ [(a, s)], r.dark, r.left, r.steps⟩
def rwriteR (r : Rk) (at_ : Int) (s : ByteArray) : Rk := if rok r at_ s then (if rmay r then rput (rstep r) at_.toNat s else rstep r) else r
def rwriteE (r : Rk) (at_ : Int) (s : ByteArray) : Int := if rok r at_ s then (if rmay r then 0 else 14) else 1
theorem rstep_L (r : Rk) : (rstep r).L = r.L := by unfold rstep; split; rfl; split <;> rfl
theorem rstep_cache (r : Rk) : (rstep r).cache = r.cache := by unfold rstep; split; rfl; split <;> rfl
set_option maxHeartbeats 1600000 in
set_option maxRecDepth 100000 in
theorem rwrite_any (q ql : Nat) (rv : Value) (J : List Value) (cap : Nat) (r : Rk) (at_ : Int) (s : ByteArray) (w : World) (h : RefAt q ql rv J cap r w) (hs : r.steps < 1000000) (hc : r.cache.length < 1000000) (_hz : s.size ≤ 9223372036854775807) :
    Calls Try.prog 28 #[.pointer (some ⟨q, 0, none⟩), .int .i64 at_, .string s] w fun e w' => ∃ rv', e = .returned (.int .i64 (rwriteE r at_ s)) ∧ RefAt q ql rv' J cap (rwriteR r at_ s) w' ∧ Fr (fp q ql rv) w w' ∧ Goes rv rv' w := by
  have h0 := h.c0
  have hm := h.most
  unfold rwriteR rwriteE rok
  cases hh : hasB r.L.length at_ with
  | false =>
    rw [Bool.false_and, if_neg Bool.false_ne_true, if_neg Bool.false_ne_true]
    have hh' := hh
    simp only [hasB, Bool.and_eq_false_iff, decide_eq_false_iff_not] at hh'
    by_cases hneg : at_ < 0
    · go_enter Try.func28, Try.ntmps28
      go_wp2
      go_ret
      first | exact ⟨rfl, rv, h, Fr.refl _ _, Goes.refl _ _⟩ | exact ⟨rv, rfl, h, Fr.refl _ _, Goes.refl _ _⟩
    · have hge : (r.L.length : Int) ≤ at_ := by omega
      go_enter Try.func28, Try.ntmps28
      go_wp2
      go_ret
      first | exact ⟨rfl, rv, h, Fr.refl _ _, Goes.refl _ _⟩ | exact ⟨rv, rfl, h, Fr.refl _ _, Goes.refl _ _⟩
  | true =>
    rw [Bool.true_and]
    have hh' := hh
    simp only [hasB, Bool.and_eq_true, decide_eq_true_eq] at hh'
    obtain ⟨k, rfl⟩ : ∃ k : Nat, at_ = k := ⟨at_.toNat, by omega⟩
    have hk : k < r.L.length := by omega
    have hlt1 : ¬ (k : Int) < 0 := by omega
    have hlt2 : ¬ (r.L.length : Int) ≤ (k : Int) := by omega
    rw [Int.toNat_natCast]
    by_cases h256 : s.size = 256
    · rw [decide_eq_true h256, if_pos rfl, if_pos rfl]
      have h256' : (s.size : Int) = 256 := by omega
      have hst := rstep_any q ql rv J cap r w h hs
      cases hmy : rmay r with
      | false =>
        rw [if_neg Bool.false_ne_true, if_neg Bool.false_ne_true]
        rw [hmy] at hst
        go_enter Try.func28, Try.ntmps28
        go_wp2_with (go_at_call 46; refine hst.mono ?_; rintro e w' ⟨rfl, h1, ho⟩)
        go_ret
        exact ⟨rv, rfl, h1, ho.fr (.inl rfl), Goes.refl _ _⟩
      | true =>
        rw [if_pos rfl, if_pos rfl]
        rw [hmy] at hst
        go_enter Try.func28, Try.ntmps28
        go_upto_region 6 with (go_at_call 46; refine hst.mono ?_; rintro e w' ⟨rfl, h1, ho⟩)
        clear hst
        have c1 := h1.c1
        have f1 := h1.fz 1
        have hcl : (rstep r).cache.length < 1000000 := by rw [rstep_cache]; exact hc
        have H1 := Lib.hid h1
        have HO := Lib.hid ho
        obtain ⟨ca, ccap, hcv⟩ := h1.cache.slice
        rw [hcv] at c1
        have hal : RefAt q ql rv J cap (rstep r) (w'.alloc (.cells #[.int .i64 (k : Int), .string s] 73)) := h1.old ((Below.refl _ _).alloc (Nat.le_refl _) _)
        have hca := hal.cache
        rw [hcv] at hca
        have HA := Lib.hid hal
        clear h ho h1 hal hh hh' h0
        go_wp2_with (at_builtin; refine wpList_append_put rfl (.tmp 32) (.tmp 36) rfl (.slice ca (rstep r).cache.length ccap) _ rfl hca w'.heap.size rfl (k, s) (cell_of (heap_alloc_last w' _) 0) (cell_of (heap_alloc_last w' _) 1) hcl ?_; intro cv' w2 hc2 hg2 hgo; obtain ⟨ca', ccap', rfl⟩ := hc2.slice; have hp2 : w2.heap[q]? = some (.cells #[.slice (some ⟨ql, 0, none⟩) (rstep r).L.length cap, rv, .bool (rstep r).dark, .int .i64 (rstep r).left, .int .i64 (rstep r).steps] 49 (0, 0)) := (hg2.block q HA.out.lt (fun e => HA.out.qc (by rw [hcv]; exact e.symm))).trans HA.out.head; have c12 : w2.cell? ⟨q, 1, none⟩ = some rv := cell_of hp2 1; have f12 := fz_of hp2 1)
        go_ret
        clear c12 f12 f1 c1
        rw [List.length_append, List.length_singleton] at hc2 hgo
        have h1 := H1.out
        have hA := HA.out
        have hnp : (Value.slice ca' ((rstep r).cache.length + 1) ccap').ownBlock ≠ some q := fun e => by
          rcases hgo q e with e' | e'
          · exact h1.qc (by rw [hcv]; exact e')
          · have := h1.lt
            simp at e'
            omega
        refine ⟨_, rfl, ⟨heap_set hp2 _, ?_, ?_, ?_, h1.most, h1.left, h1.steps, ?_⟩, (((HO.out.fr (.inl rfl)).alloc _).grown hg2 (fun j e _ => .inr (.inr (by rw [hcv]; exact e)))).setCell 1 _ (fun _ => .inl rfl), fun j e => ?_⟩
        · exact (heap_far (Ne.symm h1.ql_ne) _).trans ((hg2.block ql hA.ltl (fun e => hA.lc (by rw [hcv]; exact e.symm))).trans hA.rows)
        · exact CacheAt.kept (w := w2) hc2 fun j e => heap_far (fun e' : j = q => hnp (by rw [← e']; exact e)) _
        · intro x hx
          simp only [rput, List.mem_append, List.mem_singleton] at hx
          simp only [rput, rstep_L]
          rcases hx with hx | rfl
          · have := h1.fit x hx; rw [rstep_L] at this; exact this
          · exact hk
        · simp only [rput, List.length_append, List.length_singleton]
          omega
        · rcases hgo j e with e' | e'
          · exact .inl (by rw [hcv]; exact e')
          · have := HO.out.size
            simp at e'
            exact .inr (by omega)
    · rw [decide_eq_false h256, if_neg Bool.false_ne_true, if_neg Bool.false_ne_true]
      have h256' : ¬ (s.size : Int) = 256 := by omega
      go_enter Try.func28, Try.ntmps28
      go_wp2
      go_ret
      first | exact ⟨rfl, rv, h, Fr.refl _ _, Goes.refl _ _⟩ | exact ⟨rv, rfl, h, Fr.refl _ _, Goes.refl _ _⟩

/-- The document's disk, of whose cache the first k writes are settled. -/
def rmid (r : Rk) (pick : Nat → Bool) (k : Nat) : Rk := ⟨stK pick r.L r.cache k, r.cache, r.dark, r.left, r.steps⟩
theorem rmid_step {q ql : Nat} {rv : Value} {J : List Value} {cap : Nat} {r : Rk} {pick : Nat → Bool} {k : Nat} {w w' : World} (h : RefAt q ql rv J cap (rmid r pick k) w) (hp : pick k = true) (hk : k < r.cache.length)
    (hw : w'.heap = (w.setCell ⟨ql, (cAt r.cache k).1, none⟩ (.string (cAt r.cache k).2)).heap) : RefAt q ql rv J cap (rmid r pick (k + 1)) w' := by
  have e : stK pick r.L r.cache (k + 1) = (stK pick r.L r.cache k).set (cAt r.cache k).1 (cAt r.cache k).2 := by
    rw [stK, if_pos hp]
  have hn : (rmid r pick (k + 1)).L.length = (rmid r pick k).L.length := by simp only [rmid, stK_length]
  refine ⟨?_, ?_, ?_, ?_, ?_, h.left, h.steps, h.writes⟩
  · rw [hw, hn]; exact (heap_far h.ql_ne _).trans h.head
  · rw [hw]
    have hfit := h.fit _ (cAt_lt r.cache k hk)
    have := heap_set (i := (cAt r.cache k).1) h.rows (.string (cAt r.cache k).2)
    rw [List.setIfInBounds_toArray, List.set_append_left _ _ (by simpa using hfit), ← List.map_set] at this
    show _ = some (Obj.cells (List.map Value.string (stK pick r.L r.cache (k + 1)) ++ J).toArray _ _)
    rw [e]
    exact this
  · refine h.cache.kept fun j hj => ?_
    rw [hw]
    exact heap_far (fun e' : j = ql => h.lc (by rw [← e']; exact hj)) _
  · intro x hx; rw [hn]; exact h.fit x hx
  · rw [hn]; exact h.most
theorem rmid_skip {q ql : Nat} {rv : Value} {J : List Value} {cap : Nat} {r : Rk} {pick : Nat → Bool} {k : Nat} {w : World} (h : RefAt q ql rv J cap (rmid r pick k) w) (hp : pick k = false) : RefAt q ql rv J cap (rmid r pick (k + 1)) w := by
  have : rmid r pick (k + 1) = rmid r pick k := by
    unfold rmid
    rw [stK, if_neg (by rw [hp]; decide)]
  rw [this]; exact h
theorem stK_stop (ps : List Int) (L : List ByteArray) (c : List (Nat × ByteArray)) : ∀ j, stK (odd ps) L c (ps.length + j) = stK (odd ps) L c ps.length
  | 0 => rfl
  | j + 1 => by
    rw [← Nat.add_assoc, stK, if_neg (by unfold odd; simp), stK_stop ps L c j]
def rsettle (r : Rk) (pick : Nat → Bool) : Rk := ⟨stK pick r.L r.cache r.cache.length, [], r.dark, r.left, r.steps⟩
def rflushR (r : Rk) : Rk := if rmay r then rsettle (rstep r) Dsk.all else rstep r
set_option maxHeartbeats 3200000 in
set_option maxRecDepth 100000 in
theorem rflush_any (q ql : Nat) (rv : Value) (J : List Value) (cap : Nat) (r : Rk) (w : World) (h : RefAt q ql rv J cap r w) (hs : r.steps < 1000000) :
    Calls Try.prog 20 #[.pointer (some ⟨q, 0, none⟩)] w fun e w' => ∃ rv', e = .returned (.int .i64 (if rmay r then 0 else 14)) ∧ RefAt q ql rv' J cap (rflushR r) w' ∧ Fr (fp q ql rv) w w' ∧ Goes rv rv' w := by
  have hst := rstep_any q ql rv J cap r w h hs
  unfold rflushR
  cases hmy : rmay r with
  | false =>
    rw [if_neg Bool.false_ne_true, if_neg Bool.false_ne_true]
    rw [hmy] at hst
    go_enter Try.func20, Try.ntmps20
    go_wp2_with (go_at_call 46; refine hst.mono ?_; rintro e w' ⟨rfl, h1, ho⟩)
    go_ret
    exact ⟨rv, rfl, h1, ho.fr (.inl rfl), Goes.refl _ _⟩
  | true =>
    rw [if_pos rfl, if_pos rfl]
    rw [hmy] at hst
    generalize rstep r = R at hst ⊢
    go_enter Try.func20, Try.ntmps20
    go_upto_region 5 with (go_at_call 46; refine hst.mono ?_; rintro e w1 ⟨rfl, h1, ho⟩)
    clear hst h hmy hs
    obtain ⟨ca, ccap, hcv⟩ := h1.cache.slice
    have hwr := h1.writes
    have H1 := Lib.hid h1
    clear h1
    go_loopw [4] (fun i wr => ∃ k : Nat, k ≤ R.cache.length ∧ i = .int .i64 k ∧ RefAt q ql rv J cap (rmid R Dsk.all k) wr ∧ Fr (fun j => j = ql) w1 wr) (fun i _ => R.cache.length - (intOf i).toNat)
    case atStart => exact ⟨0, Nat.zero_le _, rfl, H1.out, Fr.refl _ _⟩
    case round =>
      obtain ⟨k, hk, rfl, hd, hf⟩ := hrel
      by_cases hlt : k < R.cache.length
      · obtain ⟨g, cap', hcv', hgb, hglt, hcs⟩ := hd.cache.cells (fun e => by have e' : R.cache = [] := e; rw [e'] at hlt; simp at hlt)
        rw [hcv] at hcv'
        injection hcv' with e1 e2 e3
        subst e1
        subst e3
        clear e2
        obtain ⟨x0, x1⟩ := hcs k hlt
        have hfit := hd.fit _ (cAt_lt R.cache k hlt)
        obtain ⟨y, hy⟩ : ∃ y, y = cAt R.cache k := ⟨_, rfl⟩
        rw [show cAt (rmid R Dsk.all k).cache k = y from hy.symm] at x0 x1
        rw [← hy] at hfit
        obtain ⟨ya, ys⟩ := y
        simp only at x0 x1 hfit
        have hlen : (rmid R Dsk.all k).L.length = R.L.length := by simp only [rmid, stK_length]
        have a0 := hd.c0
        have a1 := hd.c1
        rw [hcv] at a1
        have r0 := hd.row ya hfit
        have fr := hd.fzl ya
        rw [hlen] at a0
        rw [hlen] at hfit
        have hHY := Lib.hid hy
        have HD := Lib.hid hd
        have HF := Lib.hid hf
        clear hcs hgb hglt hy hd hf
        go_wp2
        go_region
        go_wp2
        go_roundw
        case rel =>
          have hy : (ya, ys) = cAt R.cache k := hHY.out
          exact ⟨k + 1, by omega, by go_num, rmid_step HD.out rfl hlt (by rw [← hy]; rfl), (HF.out.setCell ya (.string ys) (fun _ => rfl)).drew⟩
        case measure => simp [intOf]; omega
      · obtain rfl : k = R.cache.length := by omega
        have d1 := hd.c1
        have f1 := hd.fz 1
        have hhd := hd.head
        rw [hcv] at d1
        have HD := Lib.hid hd
        clear hd
        go_wp2
        go_ret
        have hd := HD.out
        refine ⟨.slice none 0 0, rfl, ⟨heap_set hhd _, (heap_far (Ne.symm hd.ql_ne) _).trans hd.rows, CacheAt.nil _, (fun x hx => by cases hx), hd.most, hd.left, hd.steps, by simp [rsettle]⟩, ?_, Goes.nil _ _⟩
        exact ((ho.fr (.inl rfl)).trans (hf.mono fun j _ e => .inr (.inl e))).setCell 1 _ fun _ => .inl rfl
set_option maxHeartbeats 3200000 in
set_option maxRecDepth 100000 in
theorem rcrash_any (q ql : Nat) (rv : Value) (J : List Value) (cap : Nat) (r : Rk) (w : World) (h : RefAt q ql rv J cap r w) (v : Value) (ps : List Int) (b : Nat) (hps : Ints w v ps b) (hb : b < w.heap.size → b ≠ ql) :
    Calls Try.prog 25 #[.pointer (some ⟨q, 0, none⟩), v] w fun e w' => e = .returned (.tuple #[]) ∧ RefAt q ql (.slice none 0 0) J cap ⟨stK (odd ps) r.L r.cache r.cache.length, [], false, -1, r.steps⟩ w' ∧ Fr (fp q ql rv) w w' := by
  have hps' := hps
  obtain ⟨pa, pcap, rfl, hpl, hpc⟩ := hps'
  obtain ⟨ca, ccap, hcv⟩ := h.cache.slice
  have hwr := h.writes
  have H1 := Lib.hid h
  have HC := Lib.hid hpc
  clear h hpc
  go_enter Try.func25, Try.ntmps25
  go_upto_region 1 with fail
  go_loopw [4] (fun i wr => ∃ k : Nat, k ≤ r.cache.length ∧ k ≤ ps.length ∧ i = .int .i64 k ∧ RefAt q ql rv J cap (rmid r (odd ps) k) wr ∧ Fr (fun j => j = ql) w wr) (fun i _ => r.cache.length - (intOf i).toNat)
  case atStart => exact ⟨0, Nat.zero_le _, Nat.zero_le _, rfl, H1.out, Fr.refl _ _⟩
  case round =>
    obtain ⟨k, hk, hkp, rfl, hd, hf⟩ := hrel
    by_cases hlt : k < r.cache.length
    · by_cases hltp : k < ps.length
      · obtain ⟨poff, rfl, hplt, hpj⟩ := HC.out (fun e => by rw [e] at hltp; simp at hltp)
        have hpk := hpj k hltp
        have hpw : wr.cell? ⟨b, poff + k, none⟩ = some (.int .i64 (ps.getD k 0)) := (hf.cell hplt (hb hplt)).trans hpk
        have hodd : odd ps k = decide ((ps.getD k 0).tmod 2 ≠ 0) := by unfold odd; rw [decide_eq_true hltp, Bool.true_and]
        obtain ⟨x, hx⟩ : ∃ x, x = ps.getD k 0 := ⟨_, rfl⟩
        rw [← hx] at hpw hodd
        have hcvz := hcv
        clear hpj hpk hx hcvz
        obtain ⟨g, cap', hcv', hgb, hglt, hcs⟩ := hd.cache.cells (fun e => by have e' : r.cache = [] := e; rw [e'] at hlt; simp at hlt)
        rw [hcv] at hcv'
        injection hcv' with e1 e2 e3
        subst e1
        subst e3
        clear e2
        obtain ⟨x0, x1⟩ := hcs k hlt
        have hfit := hd.fit _ (cAt_lt r.cache k hlt)
        obtain ⟨y, hy⟩ : ∃ y, y = cAt r.cache k := ⟨_, rfl⟩
        rw [show cAt (rmid r (odd ps) k).cache k = y from hy.symm] at x0 x1
        rw [← hy] at hfit
        obtain ⟨ya, ys⟩ := y
        simp only at x0 x1 hfit
        have hlen : (rmid r (odd ps) k).L.length = r.L.length := by simp only [rmid, stK_length]
        have a0 := hd.c0
        have a1 := hd.c1
        rw [hcv] at a1
        have r0 := hd.row ya hfit
        have fr := hd.fzl ya
        rw [hlen] at a0
        rw [hlen] at hfit
        have hHY := Lib.hid hy
        have HD := Lib.hid hd
        have HF := Lib.hid hf
        clear hcs hgb hglt hy hd hf
        by_cases hz : x.tmod 2 = 0
        · have ho : odd ps k = false := by rw [hodd, hz]; rfl
          have HOD := Lib.hid ho
          clear ho hodd
          go_wp2
          go_roundw
          case rel => exact ⟨k + 1, by omega, by omega, by go_num, rmid_skip HD.out HOD.out, HF.out⟩
          case measure => simp [intOf]; omega
        · have ho : odd ps k = true := by rw [hodd]; simpa using hz
          have HOD := Lib.hid ho
          clear ho hodd
          go_wp2
          go_region
          go_wp2
          go_roundw
          case rel =>
            have hy : (ya, ys) = cAt r.cache k := hHY.out
            exact ⟨k + 1, by omega, by omega, by go_num, rmid_step HD.out HOD.out hlt (by rw [← hy]; rfl), (HF.out.setCell ya (.string ys) (fun _ => rfl)).drew⟩
          case measure => simp [intOf]; omega
      · obtain rfl : k = ps.length := by omega
        have e : stK (odd ps) r.L r.cache r.cache.length = stK (odd ps) r.L r.cache ps.length := by
          have := stK_stop ps r.L r.cache (r.cache.length - ps.length)
          rw [show ps.length + (r.cache.length - ps.length) = r.cache.length by omega] at this
          exact this
        have HE := Lib.hid e
        clear e
        have hnl : ¬ ((ps.length : Int) < (ps.length : Int)) := by omega
        have d1 := hd.c1
        have d2 := hd.c2
        have d3 := hd.c3
        have f1 := hd.fz 1
        have f2 := hd.fz 2
        have f3 := hd.fz 3
        have hhd := hd.head
        rw [hcv] at d1
        have HD := Lib.hid hd
        have HF := Lib.hid hf
        clear hd hf
        go_wp2
        go_end0
        have hd := HD.out
        rw [HE.out]
        refine ⟨rfl, ⟨heap_set (heap_set (heap_set hhd _) _) _, ?_, CacheAt.nil _, (fun x hx => by cases hx), hd.most, (show (-1 : Int) ≤ -1 ∧ (-1 : Int) ≤ 9223372036854775807 by decide), hd.steps, by simp⟩, ?_⟩
        · exact (heap_far (Ne.symm hd.ql_ne) _).trans ((heap_far (Ne.symm hd.ql_ne) _).trans ((heap_far (Ne.symm hd.ql_ne) _).trans hd.rows))
        · exact (((HF.out.mono fun j _ e => .inr (.inl e)).setCell 1 _ fun _ => .inl rfl).setCell 2 _ fun _ => .inl rfl).setCell 3 _ fun _ => .inl rfl
    · obtain rfl : k = r.cache.length := by omega
      have d1 := hd.c1
      have d2 := hd.c2
      have d3 := hd.c3
      have f1 := hd.fz 1
      have f2 := hd.fz 2
      have f3 := hd.fz 3
      have hhd := hd.head
      rw [hcv] at d1
      have HD := Lib.hid hd
      have HF := Lib.hid hf
      clear hd hf
      go_wp2
      go_end0
      have hd := HD.out
      refine ⟨rfl, ⟨heap_set (heap_set (heap_set hhd _) _) _, ?_, CacheAt.nil _, (fun x hx => by cases hx), hd.most, (show (-1 : Int) ≤ -1 ∧ (-1 : Int) ≤ 9223372036854775807 by decide), hd.steps, by simp⟩, ?_⟩
      · exact (heap_far (Ne.symm hd.ql_ne) _).trans ((heap_far (Ne.symm hd.ql_ne) _).trans ((heap_far (Ne.symm hd.ql_ne) _).trans hd.rows))
      · exact (((HF.out.mono fun j _ e => .inr (.inl e)).setCell 1 _ fun _ => .inl rfl).setCell 2 _ fun _ => .inl rfl).setCell 3 _ fun _ => .inl rfl
end Go.Proofs.Ytkoojbbimjjndaa
