/-
  A disk and the document's disk side by side: what each call does to the two, and that they agree.
-/
import Derived.Test.YtkoojbbimjjndaaRefNew
import Derived.Test.YtkoojbbimjjndaaDiskIn
import Derived.Test.YtkoojbbimjjndaaOpArg
import Derived.Test.YtkoojbbimjjndaaSecLaw
namespace Go.Proofs.Ytkoojbbimjjndaa
open Go.RowKit Dsk

/-- Block p is a disk, block q one of the document's; their blocks lie from B on, and are apart. -/
structure Two (B p q : Nat) (d : Dk) (r : Rk) (bl : Nat) (cv : Value) (ql : Nat) (rv : Value) (J : List Value) (cap : Nat) (w : World) : Prop where
  hp : B ≤ p
  hq : B ≤ q
  hbl : B ≤ bl
  hql : B ≤ ql
  hcv : ∀ k, cv.ownBlock = some k → B ≤ k
  hrv : ∀ k, rv.ownBlock = some k → B ≤ k
  ne : bl ≠ ql
  apart : ∀ k, cv.ownBlock = some k → rv.ownBlock ≠ some k
  hd : DiskAt p bl cv d w
  hr : RefAt q ql rv J cap r w
def Pair (B p q : Nat) (d : Dk) (r : Rk) (w : World) : Prop := ∃ bl cv ql rv J cap, Two B p q d r bl cv ql rv J cap w

/-- Nothing below B has turned, nor any block that is of no disk. -/
structure FrP (B : Nat) (w w' : World) : Prop where
  below : Below B w w'
  other : ∀ (k : Nat) (C : Array Value) (T : TypeId) (fr : Nat × Nat), w.heap[k]? = some (Obj.cells C T fr) → T ≠ 58 → T ≠ 49 → T ≠ 9 → T ≠ 73 → w'.heap[k]? = some (Obj.cells C T fr)
theorem RefAt.apart {q ql : Nat} {rv : Value} {J : List Value} {cap : Nat} {r : Rk} {w : World} (h : RefAt q ql rv J cap r w) {k : Nat} {C : Array Value} {T : TypeId} {fr : Nat × Nat} (hk : w.heap[k]? = some (.cells C T fr)) (h1 : T ≠ 49) (h2 : T ≠ 9) (h3 : T ≠ 73) : ¬ fp q ql rv k := by
  rintro (rfl | rfl | e)
  · have := h.head; rw [hk] at this; simp at this; exact h1 this.2.1
  · have := h.rows; rw [hk] at this; simp at this; exact h2 this.2.1
  · obtain ⟨C', hC⟩ := CacheAt.type h.cache e
    rw [hk] at hC; simp at hC; exact h3 hC.2.1
section
variable {B p q : Nat} {d : Dk} {r : Rk} {bl : Nat} {cv : Value} {ql : Nat} {rv : Value} {J : List Value} {cap : Nat} {w : World}
theorem ty_apart {w : World} {k : Nat} {C C' : Array Value} {T T' : TypeId} {f f' : Nat × Nat} (h : w.heap[k]? = some (.cells C T f)) (h' : w.heap[k]? = some (.cells C' T' f')) (hT : T ≠ T') : False := by
  rw [h] at h'
  injection h' with e
  injection e with _ e2 _
  exact hT e2
theorem Two.far (h : Two B p q d r bl cv ql rv J cap w) (k : Nat) (h1 : fp p bl cv k) (h2 : fp q ql rv k) : False := by
  have a0 := h.hd.head
  have a1 := h.hd.rows
  have b0 := h.hr.head
  have b1 := h.hr.rows
  rcases h1 with e1 | e1 | e1
  · rw [← e1] at a0
    rcases h2 with e2 | e2 | e2
    · rw [← e2] at b0; exact ty_apart a0 b0 (by decide)
    · rw [← e2] at b1; exact ty_apart a0 b1 (by decide)
    · obtain ⟨C, hC⟩ := CacheAt.type h.hr.cache e2; exact ty_apart a0 hC (by decide)
  · rw [← e1] at a1
    rcases h2 with e2 | e2 | e2
    · rw [← e2] at b0; exact ty_apart a1 b0 (by decide)
    · exact h.ne (e1.symm.trans e2)
    · obtain ⟨C, hC⟩ := CacheAt.type h.hr.cache e2; exact ty_apart a1 hC (by decide)
  · obtain ⟨C', hC'⟩ := CacheAt.type h.hd.cache e1
    rcases h2 with e2 | e2 | e2
    · rw [← e2] at b0; exact ty_apart hC' b0 (by decide)
    · rw [← e2] at b1; exact ty_apart hC' b1 (by decide)
    · exact h.apart k e1 e2
theorem Two.dgo {d' : Dk} {cv' : Value} {w' : World} (h : Two B p q d r bl cv ql rv J cap w) (hd : DiskAt p bl cv' d' w') (hf : Fr (fp p bl cv) w w') (hg : Goes cv cv' w) : Pair B p q d' r w' ∧ FrP B w w' := by
  have hlt := h.hd.lt
  have hp := h.hp
  refine ⟨⟨bl, cv', ql, rv, J, cap, h.hp, h.hq, h.hbl, h.hql, fun k e => ?_, h.hrv, h.ne, fun k e e' => ?_, hd, h.hr.kept fun k hk e => hf.block k hk fun e' => h.far k e' e⟩, hf.below (by omega) fun k hk e => ?_, fun k C T fr hk h1 _ h3 h4 => (hf.block k (Array.getElem?_eq_some_iff.1 hk).1 (h.hd.apart hk h1 h3 h4)).trans hk⟩
  · rcases hg k e with e' | e'
    · exact h.hcv k e'
    · omega
  · rcases hg k e with e2 | e2
    · exact h.apart k e2 e'
    · have := h.hr.ltc e'; omega
  · rcases e with e | e | e
    · omega
    · have := h.hbl; omega
    · have := h.hcv k e; omega
theorem Two.rgo {r' : Rk} {rv' : Value} {w' : World} (h : Two B p q d r bl cv ql rv J cap w) (hr : RefAt q ql rv' J cap r' w') (hf : Fr (fp q ql rv) w w') (hg : Goes rv rv' w) : Pair B p q d r' w' ∧ FrP B w w' := by
  have hlt := h.hd.lt
  have hp := h.hp
  refine ⟨⟨bl, cv, ql, rv', J, cap, h.hp, h.hq, h.hbl, h.hql, h.hcv, fun k e => ?_, h.ne, fun k e e' => ?_, h.hd.kept fun k hk e => hf.block k hk fun e' => h.far k e e', hr⟩, hf.below (by omega) fun k hk e => ?_, fun k C T fr hk _ h2 h3 h4 => (hf.block k (Array.getElem?_eq_some_iff.1 hk).1 (h.hr.apart hk h2 h3 h4)).trans hk⟩
  · rcases hg k e with e' | e'
    · exact h.hrv k e'
    · omega
  · rcases hg k e' with e2 | e2
    · exact h.apart k e e2
    · have := h.hd.ltc e; omega
  · rcases e with e | e | e
    · have := h.hq; omega
    · have := h.hql; omega
    · have := h.hrv k e; omega
theorem Pair.disk (h : Pair B p q d r w) : DiskIn B p d w := by
  obtain ⟨bl, cv, ql, rv, J, cap, h⟩ := h
  exact ⟨h.hp, bl, cv, h.hbl, h.hcv, h.hd⟩
theorem Pair.old {w' : World} (h : Pair B p q d r w) (hb : Below w.heap.size w w') : Pair B p q d r w' := by
  obtain ⟨bl, cv, ql, rv, J, cap, h⟩ := h
  exact ⟨bl, cv, ql, rv, J, cap, h.hp, h.hq, h.hbl, h.hql, h.hcv, h.hrv, h.ne, h.apart, h.hd.old hb, h.hr.old hb⟩
theorem Pair.size (h : Pair B p q d r w) : B ≤ w.heap.size := h.disk.size
/-- The head of the document's disk. -/
theorem Pair.head (h : Pair B p q d r w) : ∃ ql cap ca ccap, w.cell? ⟨q, 0, none⟩ = some (.slice (some ⟨ql, 0, none⟩) r.L.length cap) ∧ w.cell? ⟨q, 1, none⟩ = some (.slice ca r.cache.length ccap) ∧ w.cell? ⟨q, 2, none⟩ = some (.bool r.dark) ∧ w.cell? ⟨q, 4, none⟩ = some (.int .i64 r.steps) ∧ ∀ i, i < r.L.length → w.cell? ⟨ql, i, none⟩ = some (.string (r.L.getD i .empty)) := by
  obtain ⟨bl, cv, ql, rv, J, cap, h⟩ := h
  obtain ⟨ca, ccap, e⟩ := h.hr.cache.slice
  have := h.hr.c1
  rw [e] at this
  exact ⟨ql, cap, ca, ccap, h.hr.c0, this, h.hr.c2, h.hr.c4, h.hr.row⟩
theorem Pair.most (h : Pair B p q d r w) : r.L.length ≤ 65536 := by
  obtain ⟨bl, cv, ql, rv, J, cap, h⟩ := h
  exact h.hr.most
end

section
variable {B p q : Nat} {d : Dk} {r : Rk} {w : World}
theorem sectorsIn (B p : Nat) (d : Dk) (w : World) (h : DiskIn B p d w) :
    Calls Try.prog 18 #[.pointer (some ⟨p, 0, none⟩)] w fun e w' => e = .returned (.int .i64 d.lies.length) ∧ w = w' := by
  obtain ⟨h1, bl, cv, h2, h3, h4⟩ := h
  exact sectors_any p bl cv d w h4
theorem newP (n : Nat) (h1 : 1 ≤ n) (hn : n ≤ 65536) (hd : DiskIn B p d w) :
    Calls Try.prog 17 #[.int .i64 (n : Int)] w fun e w' => ∃ q, e = .returned (.pointer (some ⟨q, 0, none⟩)) ∧ Pair B p q d ⟨List.replicate n zeroB, [], false, -1, 0⟩ w' ∧ Below w.heap.size w w' := by
  obtain ⟨e1, bl, cv, e2, e3, e4⟩ := hd
  refine (rnew_any n w h1 hn).mono fun e w' ⟨q, ql, J, cap, he, hq, hql, hr, hb⟩ => ⟨q, he, ⟨bl, cv, ql, _, J, cap, e1, ?_, e2, ?_, e3, (fun k e => by simp [Value.ownBlock] at e), ?_, (fun k _ e => by simp [Value.ownBlock] at e), e4.old hb, hr⟩, hb⟩
  · have := e4.lt; omega
  · have := e4.lt; omega
  · have := e4.ltl; omega
theorem writeP (at_ : Int) (s : ByteArray) (h : Pair B p q d r w) (hs : d.steps < 1000000) (hc : d.cache.length < 1000000) (hz : s.size ≤ 9223372036854775807) :
    Calls Try.prog 27 #[.pointer (some ⟨p, 0, none⟩), .int .i64 at_, .string s] w fun e w' => e = .returned (.int .i64 (writeE d at_ s)) ∧ Pair B p q (writeD d at_ s) r w' ∧ FrP B w w' := by
  obtain ⟨bl, cv, ql, rv, J, cap, h⟩ := h
  exact (write_disk p bl cv d at_ s w h.hd hs hc hz).mono fun e w' ⟨cv', he, hd, hf, hg⟩ => ⟨he, h.dgo hd hf hg⟩
theorem rwriteP (at_ : Int) (s : ByteArray) (h : Pair B p q d r w) (hs : r.steps < 1000000) (hc : r.cache.length < 1000000) (hz : s.size ≤ 9223372036854775807) :
    Calls Try.prog 28 #[.pointer (some ⟨q, 0, none⟩), .int .i64 at_, .string s] w fun e w' => e = .returned (.int .i64 (rwriteE r at_ s)) ∧ Pair B p q d (rwriteR r at_ s) w' ∧ FrP B w w' := by
  obtain ⟨bl, cv, ql, rv, J, cap, h⟩ := h
  exact (rwrite_any q ql rv J cap r at_ s w h.hr hs hc hz).mono fun e w' ⟨cv', he, hd, hf, hg⟩ => ⟨he, h.rgo hd hf hg⟩
theorem flushP (h : Pair B p q d r w) (hs : d.steps < 1000000) :
    Calls Try.prog 19 #[.pointer (some ⟨p, 0, none⟩)] w fun e w' => e = .returned (.int .i64 (err d)) ∧ Pair B p q (Dsk.flush d) r w' ∧ FrP B w w' := by
  obtain ⟨bl, cv, ql, rv, J, cap, h⟩ := h
  exact (flush_disk p bl cv d w h.hd hs).mono fun e w' ⟨cv', he, hd, hf, hg⟩ => ⟨he, h.dgo hd hf hg⟩
theorem rflushP (h : Pair B p q d r w) (hs : r.steps < 1000000) :
    Calls Try.prog 20 #[.pointer (some ⟨q, 0, none⟩)] w fun e w' => e = .returned (.int .i64 (if rmay r then 0 else 14)) ∧ Pair B p q d (rflushR r) w' ∧ FrP B w w' := by
  obtain ⟨bl, cv, ql, rv, J, cap, h⟩ := h
  exact (rflush_any q ql rv J cap r w h.hr hs).mono fun e w' ⟨cv', he, hd, hf, hg⟩ => ⟨he, h.rgo hd hf hg⟩
theorem armP (n : Int) (h : Pair B p q d r w) (hn : n ≤ 9223372036854775807) :
    Calls Try.prog 21 #[.pointer (some ⟨p, 0, none⟩), .int .i64 n] w fun e w' => e = .returned (.tuple #[]) ∧ Pair B p q (Dsk.arm d n.toNat) r w' ∧ FrP B w w' := by
  obtain ⟨bl, cv, ql, rv, J, cap, h⟩ := h
  exact (arm_any p bl cv d n w h.hd hn).mono fun e w' ⟨he, hd, ho⟩ => ⟨he, h.dgo hd (ho.fr (.inl rfl)) (Goes.refl _ _)⟩
def rarmR (r : Rk) (n : Int) : Rk := ⟨r.L, r.cache, r.dark, (n.toNat : Int), r.steps⟩
theorem rarmP (n : Int) (h : Pair B p q d r w) (hn : n ≤ 9223372036854775807) :
    Calls Try.prog 22 #[.pointer (some ⟨q, 0, none⟩), .int .i64 n] w fun e w' => e = .returned (.tuple #[]) ∧ Pair B p q d (rarmR r n) w' ∧ FrP B w w' := by
  obtain ⟨bl, cv, ql, rv, J, cap, h⟩ := h
  exact (rarm_any q ql rv J cap r n w h.hr hn).mono fun e w' ⟨he, hd, ho⟩ => ⟨he, h.rgo hd (ho.fr (.inl rfl)) (Goes.refl _ _)⟩
theorem crashP (h : Pair B p q d r w) (v : Value) (ps : List Int) (b : Nat) (hps : Ints w v ps b) (hb : b < B) :
    Calls Try.prog 23 #[.pointer (some ⟨p, 0, none⟩), v] w fun e w' => e = .returned (.tuple #[]) ∧ Pair B p q (Dsk.crash d (odd ps)) r w' ∧ FrP B w w' := by
  obtain ⟨bl, cv, ql, rv, J, cap, h⟩ := h
  exact (crash_disk p bl cv d w h.hd v ps b hps fun _ e => by have := h.hbl; omega).mono fun e w' ⟨he, hd, hf⟩ => ⟨he, h.dgo hd hf (Goes.nil _ _)⟩
def rcrashR (r : Rk) (ps : List Int) : Rk := ⟨stK (odd ps) r.L r.cache r.cache.length, [], false, -1, r.steps⟩
theorem rcrashP (h : Pair B p q d r w) (v : Value) (ps : List Int) (b : Nat) (hps : Ints w v ps b) (hb : b < B) :
    Calls Try.prog 25 #[.pointer (some ⟨q, 0, none⟩), v] w fun e w' => e = .returned (.tuple #[]) ∧ Pair B p q d (rcrashR r ps) w' ∧ FrP B w w' := by
  obtain ⟨bl, cv, ql, rv, J, cap, h⟩ := h
  exact (rcrash_any q ql rv J cap r w h.hr v ps b hps fun _ e => by have := h.hql; omega).mono fun e w' ⟨he, hd, hf⟩ => ⟨he, h.rgo hd hf (Goes.nil _ _)⟩
theorem rreadP (at_ : Int) (h : Pair B p q d r w) :
    Calls Try.prog 33 #[.pointer (some ⟨q, 0, none⟩), .int .i64 at_] w fun e w' => e = .returned (.tuple #[.string (rreadS r at_), .int .i64 (rreadE r at_)]) ∧ w = w' := by
  obtain ⟨bl, cv, ql, rv, J, cap, h⟩ := h
  exact rread_any q ql rv J cap r at_ w h.hr
end

/-- The two agree: what the document's disk holds, where the disk holds d. -/
def toR (d : Dk) (lf : Int) : Rk := ⟨d.lies, d.cache, !d.on, if d.on then (if d.armed then (d.left : Int) else -1) else lf, d.steps⟩
def Agree (d : Dk) (r : Rk) : Prop := ∃ lf, r = toR d lf
theorem agree_new (n : Nat) : Agree (Dsk.new n) ⟨List.replicate n zeroB, [], false, -1, 0⟩ := ⟨0, rfl⟩
theorem agree_may (d : Dk) (lf : Int) : rmay (toR d lf) = may d := by
  obtain ⟨L, C, on, armed, left, steps⟩ := d
  unfold rmay may toR
  cases on <;> cases armed <;> simp
theorem agree_step (d : Dk) (lf : Int) : ∃ lf', rstep (toR d lf) = toR (Dsk.step d) lf' := by
  obtain ⟨L, C, on, armed, left, steps⟩ := d
  cases on with
  | false => exact ⟨lf, by simp [rstep, toR, Dsk.step, may]⟩
  | true =>
    cases armed with
    | false => exact ⟨0, by simp [rstep, toR, Dsk.step, may]⟩
    | true =>
      by_cases hz : left = 0
      · subst hz
        exact ⟨0, by simp [rstep, toR, Dsk.step, may]⟩
      · refine ⟨0, ?_⟩
        simp [rstep, toR, Dsk.step, may, hz]
        rw [if_pos (by omega)]
        omega
theorem agree_write {d : Dk} {r : Rk} (h : Agree d r) (at_ : Int) (s : ByteArray) : Agree (writeD d at_ s) (rwriteR r at_ s) ∧ rwriteE r at_ s = writeE d at_ s := by
  obtain ⟨lf, rfl⟩ := h
  obtain ⟨lf', e⟩ := agree_step d lf
  have hok : rok (toR d lf) at_ s = writeOk d at_ s := rfl
  unfold rwriteR rwriteE writeD writeE Dsk.write err
  rw [hok, agree_may, e]
  cases writeOk d at_ s with
  | false => exact ⟨⟨lf, rfl⟩, rfl⟩
  | true =>
    cases may d with
    | false => exact ⟨⟨lf', rfl⟩, rfl⟩
    | true => exact ⟨⟨lf', rfl⟩, rfl⟩
theorem agree_flush {d : Dk} {r : Rk} (h : Agree d r) : Agree (Dsk.flush d) (rflushR r) ∧ (if rmay r then 0 else 14) = err d := by
  obtain ⟨lf, rfl⟩ := h
  obtain ⟨lf', e⟩ := agree_step d lf
  unfold rflushR Dsk.flush err
  rw [agree_may, e]
  cases may d with
  | false => exact ⟨⟨lf', rfl⟩, rfl⟩
  | true => exact ⟨⟨lf', rfl⟩, rfl⟩
theorem agree_arm {d : Dk} {r : Rk} (h : Agree d r) (n : Int) : Agree (Dsk.arm d n.toNat) (rarmR r n) := by
  obtain ⟨lf, rfl⟩ := h
  obtain ⟨L, C, on, armed, left, steps⟩ := d
  cases on with
  | false => exact ⟨(n.toNat : Int), rfl⟩
  | true => exact ⟨0, rfl⟩
theorem agree_crash {d : Dk} {r : Rk} (h : Agree d r) (ps : List Int) (hn : 0 < d.lies.length) : Agree (Dsk.crash d (odd ps)) (rcrashR r ps) := by
  obtain ⟨lf, rfl⟩ := h
  refine ⟨0, ?_⟩
  unfold rcrashR toR Dsk.crash
  rw [decide_eq_true hn]
  rfl
theorem Agree.read {d : Dk} {r : Rk} (h : Agree d r) (at_ : Int) : rreadS r at_ = readS d at_ ∧ rreadE r at_ = readE d at_ := by
  obtain ⟨lf, rfl⟩ := h
  obtain ⟨L, C, on, armed, left, steps⟩ := d
  unfold rreadS rreadE readS readE toR
  cases on <;> exact ⟨rfl, rfl⟩
/-- How many steps and writes there can be, behind k calls. -/
structure Few (n k : Nat) (d : Dk) : Prop where
  len : d.lies.length = n
  steps : d.steps ≤ k
  cache : d.cache.length ≤ k
theorem few_new (n : Nat) : Few n 0 (Dsk.new n) := ⟨by simp [Dsk.new], by simp [Dsk.new], by simp [Dsk.new]⟩
theorem step_steps (d : Dk) : (Dsk.step d).steps ≤ d.steps + 1 := by unfold Dsk.step; split <;> simp
theorem Few.write {n k : Nat} {d : Dk} (h : Few n k d) (at_ : Int) (s : ByteArray) : Few n (k + 1) (writeD d at_ s) := by
  have h1 := h.steps
  have h2 := h.cache
  have h3 := step_steps d
  unfold writeD Dsk.write
  split
  · split
    · exact ⟨by simp only [put, step_lies]; exact h.len, by simp only [put]; omega, by simp only [put, step_cache, List.length_append, List.length_singleton]; omega⟩
    · exact ⟨by rw [step_lies]; exact h.len, by omega, by rw [step_cache]; omega⟩
  · exact ⟨h.len, by omega, by omega⟩
theorem Few.flush {n k : Nat} {d : Dk} (h : Few n k d) : Few n (k + 1) (Dsk.flush d) := by
  have h1 := h.steps
  have h2 := h.cache
  have h3 := step_steps d
  refine ⟨(flush_len d).trans h.len, ?_, ?_⟩
  · unfold Dsk.flush; split
    · simp only [Dsk.settle]; omega
    · omega
  · unfold Dsk.flush; split
    · simp [Dsk.settle]
    · rw [step_cache]; omega
theorem Few.arm {n k : Nat} {d : Dk} (h : Few n k d) (m : Nat) : Few n (k + 1) (Dsk.arm d m) := by
  have h1 := h.steps
  have h2 := h.cache
  unfold Dsk.arm
  split
  · exact ⟨h.len, (show d.steps ≤ k + 1 by omega), (show d.cache.length ≤ k + 1 by omega)⟩
  · exact ⟨h.len, by omega, by omega⟩
theorem Few.crash {n k : Nat} {d : Dk} (h : Few n k d) (pick : Nat → Bool) : Few n (k + 1) (Dsk.crash d pick) := by
  have h1 := h.steps
  exact ⟨by simp only [Dsk.crash, stK_length]; exact h.len, (show d.steps ≤ k + 1 by omega), by simp [Dsk.crash]⟩
/-- At most 20 picks. -/
theorem picks_any (a b c d e : Value) (pa : Option Addr) (pcap : Nat) (ps P : List Int) (w : World) (hP : P = ps.take 20) (hl : ps.length ≤ pcap ∧ pcap ≤ 9223372036854775807) :
    Calls Try.prog 24 #[.agg #[a, b, c, d, e, .slice pa ps.length pcap]] w fun e w' => e = .returned (.slice pa P.length pcap) ∧ Below w.heap.size w w' := by
  have hlen : P.length = if 20 < ps.length then 20 else ps.length := by rw [hP, List.length_take]; split <;> omega
  have HL := Lib.hid hlen
  clear hlen hP
  by_cases h : 20 < ps.length
  · have h' : 20 < (ps.length : Int) := by omega
    go_enter Try.func24, Try.ntmps24
    go_wp2
    go_ret
    exact ⟨by rw [HL.out, if_pos h]; rfl, (Below.refl _ _).alloc (Nat.le_refl _) _⟩
  · have h' : ¬ 20 < (ps.length : Int) := by omega
    go_enter Try.func24, Try.ntmps24
    go_wp2
    go_ret
    exact ⟨by rw [HL.out, if_neg h]; rfl, (Below.refl _ _).alloc (Nat.le_refl _) _⟩
end Go.Proofs.Ytkoojbbimjjndaa
