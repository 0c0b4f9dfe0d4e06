/-
  Package sector: Write: a write is put at the cache's end.
-/
import Derived.Test.YtkoojbbimjjndaaDiskAsk
import Derived.Deep.Cut
namespace Go.Proofs.Ytkoojbbimjjndaa
open Go.RowKit Dsk

theorem info_put : (Try.prog.info? 73).map (fun i => (i.zero, i.size, i.bytes)) = some (some (.agg #[.int .i64 0, .string ⟨#[]⟩]), 2, 24) := by kernel_rfl

theorem append_where {w : World} {ty e : TypeId} {t : TypeId} {i : TypeInfo} {z : Value} (ht : Try.prog.underlying t = some (.slice e)) (hi : Try.prog.info? e = some i) (hz : i.zero = some z) (hzs : z.cells.size = i.size) (hsz : 0 < i.size)
    (v : Value) (n : Nat) (xs : List Value) (hown : w.ownsRow 0 e i.size v n xs) (a : Addr) (m c : Nat) (news : List Value) (hl : news.length = m * i.size) (hnews : ∀ j u, news[j]? = some u → w.cell? (a.add j) = some u) (h1 : ∀ u ∈ news, u.oneCell' = true)
    (h63 : n + m ≤ maxLen) (hbytes : (n + m) * i.bytes ≤ 140737488355328) (hm : 0 < m) :
    ∃ v' w', (Builtin.append_ #[t, t] ty #[v, .slice (some a) m c]).run Try.prog w = .ok v' w' ∧ w'.ownsRow 0 e i.size v' (n + m) (xs ++ news) ∧ w.grownBy w' v.ownBlock ∧ ∀ k, v'.ownBlock = some k → v.ownBlock = some k ∨ w.heap.size ≤ k := by
  obtain ⟨v', w', hr, h2, h3, h4⟩ := run_append_own (P := Try.prog) w 0 t ty e i z i.size i.bytes ht hi hz rfl rfl hzs hsz v n xs hown a m c news hl hnews h1 h63 hbytes (Nat.zero_le _)
  have hsmall : n + m ≤ 9223372036854775807 := by simp only [maxLen] at h63; omega
  refine ⟨v', w', hr, h2, h3, fun k hk => ?_⟩
  rcases hown.2 with ⟨rfl, rfl⟩ | ⟨g, cap, cur, rfl, hbg, hg, hnc, hcm, hcs, htake⟩
  · have hr2 := run_append_nil (P := Try.prog) w t ty e i z ht hi hz a m c news hl hnews (by omega) (by omega) (by have hb := hbytes; simp only [Nat.zero_add] at hb; omega)
    rw [hr2] at hr
    injection hr with e1 e2
    subst e1
    simp [Value.ownBlock] at hk
    exact .inr (by omega)
  · by_cases hroom : n + m ≤ cap
    · have hfit : n * i.size + news.length ≤ cur.size := by rw [hl, hcs, ← Nat.add_mul]; exact Nat.mul_le_mul_right _ hroom
      have hr2 := run_append_room (P := Try.prog) w t ty e i ht hi g n cap cur hg a m c news hl hnews h1 hroom hfit
      rw [hr2] at hr
      injection hr with e1 e2
      subst e1
      simp [Value.ownBlock] at hk
      exact .inl (by simp [Value.ownBlock, hk])
    · have holds : ∀ j u, xs[j]? = some u → w.cell? ((⟨g, 0, none⟩ : Addr).add j) = some u := hown.cells (g := g) rfl
      have hr2 := run_append_grow (P := Try.prog) w t ty e i z ht hi hz ⟨g, 0, none⟩ n cap xs hown.1 holds a m c news hl hnews (by omega) (by omega) (growslice_fits (by omega) hbytes)
      rw [hr2] at hr
      injection hr with e1 e2
      subst e1
      simp [Value.ownBlock] at hk
      exact .inr (by omega)

theorem wpList_append_put {ops : Array Oper} {rest : List Oper} {o : Oper} {a : Act} {w : World} {Q : Exit → Act → World → Prop} (hg : o.guard = none) (s x : Operand)
    (hop : o.op = Op.call { callee := Callee.builtin Builtin.append, args := #[s, x], argTypes := #[47, 47] }) (cv : Value) (c : List (Nat × ByteArray)) (hs : a.eval s = cv) (hc : CacheAt cv c w)
    (b : Nat) (hx : a.eval x = .slice (some ⟨b, 0, none⟩) 1 1) (y : Nat × ByteArray) (h0 : w.cell? ⟨b, 0, none⟩ = some (.int .i64 (y.1 : Int))) (h1 : w.cell? ⟨b, 1, none⟩ = some (.string y.2)) (hlen : c.length < 1000000)
    (hK : ∀ cv' w', CacheAt cv' (c ++ [y]) w' → w.grownBy w' cv.ownBlock → (∀ k, cv'.ownBlock = some k → cv.ownBlock = some k ∨ w.heap.size ≤ k) → wpList Try.prog ops Q rest (a.put o.dst cv') w') : wpList Try.prog ops Q (o :: rest) a w := by
  refine wpList_plain hg fun K hK' => ?_
  obtain ⟨i0, hi, hz0, hz1, hz2⟩ := info_parts info_put
  have hc' := hc
  unfold CacheAt at hc'
  rw [← hz1] at hc'
  obtain ⟨v', w', hr, h2, h3, h4⟩ := append_where (ty := o.type) Try.underlying47 hi hz0 (by rw [hz1]; rfl) (by rw [hz1]; decide) cv c.length (putCs c) hc' ⟨b, 0, none⟩ 1 1 [.int .i64 (y.1 : Int), .string y.2] (by rw [hz1]; rfl)
    (fun j u hu => by
      rw [Addr.add_mid, Nat.zero_add]
      match j, hu with
      | 0, hu => simp at hu; subst hu; exact h0
      | 1, hu => simp at hu; subst hu; exact h1) (by intro u hu; simp at hu; rcases hu with rfl | rfl <;> rfl) (by unfold maxLen; omega) (by rw [hz2]; omega) (by decide)
  unfold Oper.wp
  simp [execOp, hop, resolve, invoke, builtin, hs, hx, hr, Result.andThen]
  refine hK' _ _ (hK v' w' ?_ h3 h4)
  unfold CacheAt
  rw [List.length_append, List.length_singleton, putCs_snoc, ← hz1]
  exact h2

def writeOk (d : Dk) (at_ : Int) (s : ByteArray) : Bool := hasB d.lies.length at_ && decide (s.size = 256)
def writeD (d : Dk) (at_ : Int) (s : ByteArray) : Dk := if writeOk d at_ s then Dsk.write d at_.toNat s else d
def writeE (d : Dk) (at_ : Int) (s : ByteArray) : Int := if writeOk d at_ s then err d else 1
/-- The blocks of a disk, as it goes on: those that it had, or new ones. -/
def Goes (cv cv' : Value) (w : World) : Prop := ∀ k, cv'.ownBlock = some k → cv.ownBlock = some k ∨ w.heap.size ≤ k
theorem Goes.refl (cv : Value) (w : World) : Goes cv cv w := fun _ h => .inl h
theorem Goes.nil (cv : Value) (w : World) : Goes cv (.slice none 0 0) w := fun k h => by simp [Value.ownBlock] at h
theorem Only.fr {p : Nat} {w w' : World} (h : Only p w w') {S : Nat → Prop} (hp : S p) : Fr S w w' := ⟨h.os, h.tape, h.output, h.size, fun k hk hn => h.block k hk fun e => hn (e ▸ hp)⟩

set_option maxHeartbeats 1600000 in
set_option maxRecDepth 100000 in
theorem write_disk (p bl : Nat) (cv : Value) (d : Dk) (at_ : Int) (s : ByteArray) (w : World) (h : DiskAt p bl cv d w) (hs : d.steps < 1000000) (hc : d.cache.length < 1000000) (_hz : s.size ≤ 9223372036854775807) :
    Calls Try.prog 27 #[.pointer (some ⟨p, 0, none⟩), .int .i64 at_, .string s] w fun e w' => ∃ cv', e = .returned (.int .i64 (writeE d at_ s)) ∧ DiskAt p bl cv' (writeD d at_ s) w' ∧ Fr (fp p bl cv) w w' ∧ Goes cv cv' w := by
  unfold writeD writeE writeOk
  cases hh : hasB d.lies.length at_ with
  | false =>
    rw [Bool.false_and, if_neg (by decide), if_neg (by decide)]
    go_enter Try.func27, Try.ntmps27
    go_wp2_with (go_at_call 48; refine (has_any _ _ _ _ _ _ h).mono ?_; rintro e w' ⟨rfl, rfl⟩; rw [hh])
    go_ret
    exact ⟨cv, rfl, h, Fr.refl _ _, Goes.refl _ _⟩
  | true =>
    rw [Bool.true_and]
    have hh' := hh
    simp only [hasB, Bool.and_eq_true, decide_eq_true_eq] at hh'
    obtain ⟨k, rfl⟩ : ∃ k : Nat, at_ = k := ⟨at_.toNat, by omega⟩
    have hk : k < d.lies.length := by omega
    rw [Int.toNat_natCast]
    by_cases h256 : s.size = 256
    · rw [decide_eq_true h256, if_pos rfl, if_pos rfl]
      have h256' : (s.size : Int) = 256 := by omega
      have hst := step_any p bl cv d w h hs
      cases hm : may d with
      | false =>
        have he : err d = 14 := by unfold err; rw [hm]; rfl
        have hd : Dsk.write d k s = Dsk.step d := by unfold Dsk.write; rw [hm]; rfl
        rw [he, hd]
        rw [he] at hst
        go_enter Try.func27, Try.ntmps27
        go_wp2_with (first
          | (go_at_call 48; refine (has_any _ _ _ _ _ _ h).mono ?_; rintro e w' ⟨rfl, rfl⟩; rw [hh])
          | (go_at_call 43; refine hst.mono ?_; rintro e w' ⟨rfl, h1, ho⟩))
        go_ret
        exact ⟨cv, rfl, h1, ho.fr (.inl rfl), Goes.refl _ _⟩
      | true =>
        have he : err d = 0 := by unfold err; rw [hm]; rfl
        have hd : Dsk.write d k s = put (Dsk.step d) k s := by unfold Dsk.write; rw [hm]; rfl
        rw [he, hd]
        rw [he] at hst
        go_enter Try.func27, Try.ntmps27
        go_upto_region 6 with (first
          | (go_at_call 48; refine (has_any _ _ _ _ _ _ h).mono ?_; rintro e w' ⟨rfl, rfl⟩; rw [hh])
          | (go_at_call 43; refine hst.mono ?_; rintro e w' ⟨rfl, h1, ho⟩))
        clear hst
        have c1 := h1.c1
        have f1 := h1.fz 1
        have hh1 := h1.head
        have hcl : (Dsk.step d).cache.length < 1000000 := by rw [step_cache]; exact hc
        have H1 := Lib.hid h1
        have HO := Lib.hid ho
        obtain ⟨ca, ccap, hcv⟩ := h1.cache.slice
        rw [hcv] at c1
        have hal : DiskAt p bl cv (Dsk.step d) (w'.alloc (.cells #[.int .i64 (k : Int), .string s] 73)) := h1.old ((Below.refl _ _).alloc (Nat.le_refl _) _)
        have hca := hal.cache
        rw [hcv] at hca
        have HA := Lib.hid hal
        clear h ho h1 hal hh hh'
        go_wp2_with (at_builtin; refine wpList_append_put rfl (.tmp 26) (.tmp 30) rfl (.slice ca (Dsk.step d).cache.length ccap) _ rfl hca w'.heap.size rfl (k, s) (cell_of (heap_alloc_last w' _) 0) (cell_of (heap_alloc_last w' _) 1) hcl ?_; intro cv' w2 hc2 hg2 hgo; obtain ⟨ca', ccap', rfl⟩ := hc2.slice; have hp2 : w2.heap[p]? = some (.cells (headC bl (Dsk.step d).lies.length cv (Dsk.step d)) 58 (0, 0)) := (hg2.block p HA.out.lt (fun e => HA.out.pc (by rw [hcv]; exact e.symm))).trans HA.out.head; have c12 : w2.cell? ⟨p, 1, none⟩ = some cv := cell_of hp2 1; have f12 := fz_of hp2 1)
        go_ret
        clear c12 f12 f1 c1
        rw [List.length_append, List.length_singleton] at hc2 hgo
        have h1 := H1.out
        have hA := HA.out
        have hnp : (Value.slice ca' ((Dsk.step d).cache.length + 1) ccap').ownBlock ≠ some p := fun e => by
          rcases hgo p e with e' | e'
          · exact h1.pc (by rw [hcv]; exact e')
          · have := h1.lt
            simp at e'
            omega
        refine ⟨_, rfl, ⟨heap_set hp2 _, ?_, ?_, ?_, h1.most, h1.left, h1.steps, ?_⟩, (((HO.out.fr (.inl rfl)).alloc _).grown hg2 (fun j e _ => .inr (.inr (by rw [hcv]; exact e)))).setCell 1 _ (fun _ => .inl rfl), fun j e => ?_⟩
        · exact (heap_far (Ne.symm h1.pl) _).trans ((hg2.block bl hA.ltl (fun e => hA.lc (by rw [hcv]; exact e.symm))).trans hA.rows)
        · exact CacheAt.kept (w := w2) hc2 fun j e => heap_far (fun e' : j = p => hnp (by rw [← e']; exact e)) _
        · intro x hx
          simp only [put, List.mem_append, List.mem_singleton] at hx
          simp only [put, step_lies]
          rcases hx with hx | rfl
          · have := h1.fit x hx; rw [step_lies] at this; exact this
          · exact hk
        · simp only [put, List.length_append, List.length_singleton]
          omega
        · rcases hgo j e with e' | e'
          · exact .inl (by rw [hcv]; exact e')
          · have := HO.out.size
            simp at e'
            exact .inr (by omega)
    · rw [decide_eq_false h256, if_neg (by decide), if_neg (by decide)]
      have h256' : ¬ (s.size : Int) = 256 := by omega
      go_enter Try.func27, Try.ntmps27
      go_wp2_with (go_at_call 48; refine (has_any _ _ _ _ _ _ h).mono ?_; rintro e w' ⟨rfl, rfl⟩; rw [hh])
      go_ret
      exact ⟨cv, rfl, h, Fr.refl _ _, Goes.refl _ _⟩
theorem write_nil (at_ : Int) (s : ByteArray) (w : World) :
    Calls Try.prog 27 #[.pointer none, .int .i64 at_, .string s] w fun e w' => e = .returned (.int .i64 1) ∧ w = w' := by
  go_enter Try.func27, Try.ntmps27
  go_wp2_with (go_at_call 48; refine (has_nil _ _).mono ?_; rintro e w' ⟨rfl, rfl⟩)
  go_ret
  exact ⟨rfl, rfl⟩
end Go.Proofs.Ytkoojbbimjjndaa
