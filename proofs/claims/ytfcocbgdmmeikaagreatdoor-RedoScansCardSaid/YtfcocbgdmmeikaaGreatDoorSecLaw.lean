/-
  What the laws of package sector lean on besides: masks of places, disks that are on and not armed.
-/
import Derived.Test.YtfcocbgdmmeikaaGreatDoorMDisk
namespace Go.Proofs.YtfcocbgdmmeikaaGreatDoor
open Go.RowKit Dsk

/-- A disk with power, not armed. -/
structure Live (n : Nat) (d : Dk) : Prop where
  on : d.on = true
  armed : d.armed = false
  len : d.lies.length = n
theorem Live.may {n : Nat} {d : Dk} (h : Live n d) : may d = true := by unfold Dsk.may; rw [h.on, h.armed]; rfl
theorem Live.err {n : Nat} {d : Dk} (h : Live n d) : err d = 0 := by unfold Dsk.err; rw [h.may]; rfl
theorem Live.step {n : Nat} {d : Dk} (h : Live n d) : Dsk.step d = ⟨d.lies, d.cache, true, false, d.left, d.steps + 1⟩ := by
  unfold Dsk.step
  rw [h.may, h.armed]
  rfl
theorem live_new (n : Nat) : Live n (Dsk.new n) := ⟨rfl, rfl, by simp [Dsk.new]⟩
theorem Live.ok {n : Nat} {d : Dk} (h : Live n d) {k : Nat} {s : ByteArray} (hk : k < n) (hs : s.size = 256) : writeOk d (k : Int) s = true := by
  unfold writeOk hasB
  rw [h.len, hs]
  simp
  omega
theorem Live.writeE {n : Nat} {d : Dk} (h : Live n d) {k : Nat} {s : ByteArray} (hk : k < n) (hs : s.size = 256) : writeE d (k : Int) s = 0 := by
  unfold Go.Proofs.YtfcocbgdmmeikaaGreatDoor.writeE
  rw [if_pos (h.ok hk hs), h.err]
theorem Live.writeD {n : Nat} {d : Dk} (h : Live n d) {k : Nat} {s : ByteArray} (hk : k < n) (hs : s.size = 256) : writeD d (k : Int) s = ⟨d.lies, d.cache ++ [(k, s)], true, false, d.left, d.steps + 1⟩ := by
  unfold Go.Proofs.YtfcocbgdmmeikaaGreatDoor.writeD
  rw [if_pos (h.ok hk hs), Int.toNat_natCast]
  unfold Dsk.write
  rw [h.may, if_pos rfl, h.step]
  rfl
theorem Live.write {n : Nat} {d : Dk} (h : Live n d) {k : Nat} {s : ByteArray} (hk : k < n) (hs : s.size = 256) : Live n (Go.Proofs.YtfcocbgdmmeikaaGreatDoor.writeD d (k : Int) s) := by
  rw [h.writeD hk hs]
  exact ⟨rfl, rfl, h.len⟩
theorem Live.flushD {n : Nat} {d : Dk} (h : Live n d) : Dsk.flush d = ⟨stK Dsk.all d.lies d.cache d.cache.length, [], true, false, d.left, d.steps + 1⟩ := by
  unfold Dsk.flush
  rw [h.may, if_pos rfl, h.step]
  rfl
theorem Live.flush {n : Nat} {d : Dk} (h : Live n d) : Live n (Dsk.flush d) := by
  rw [h.flushD]
  exact ⟨rfl, rfl, by simp only [stK_length]; exact h.len⟩
theorem Live.crash {n : Nat} {d : Dk} (h : Live n d) (hn : 0 < n) (pick : Nat → Bool) : Live n (Dsk.crash d pick) :=
  ⟨by unfold Dsk.crash; simp only; rw [h.len]; exact decide_eq_true hn, rfl, by simp only [Dsk.crash, stK_length]; exact h.len⟩
/-- What is read behind a write. -/
theorem Live.read_write {n : Nat} {d : Dk} (h : Live n d) {k : Nat} {s : ByteArray} (hk : k < n) (hs : s.size = 256) (a : Nat) : Dsk.read (Go.Proofs.YtfcocbgdmmeikaaGreatDoor.writeD d (k : Int) s) a = if k = a then s else Dsk.read d a := by
  rw [h.writeD hk hs]
  exact read_put ⟨d.lies, d.cache, true, false, d.left, d.steps + 1⟩ k s a
/-- .. behind a flush. -/
theorem Live.read_flush {n : Nat} {d : Dk} (h : Live n d) {a : Nat} (ha : a < n) : Dsk.read (Dsk.flush d) a = Dsk.read d a := by
  rw [h.flushD]
  exact stK_all d.lies d.cache a (by rw [h.len]; exact ha) d.cache.length
theorem Live.readS {n : Nat} {d : Dk} (h : Live n d) {a : Nat} (ha : a < n) : readS d (a : Int) = Dsk.read d a := by
  unfold Go.Proofs.YtfcocbgdmmeikaaGreatDoor.readS hasB
  rw [h.len, h.on, Int.toNat_natCast]
  simp
  omega
theorem Live.readE {n : Nat} {d : Dk} (h : Live n d) {a : Nat} (ha : a < n) : readE d (a : Int) = 0 := by
  unfold Go.Proofs.YtfcocbgdmmeikaaGreatDoor.readE hasB
  rw [h.len, h.on]
  simp
  omega
theorem Live.peek {n : Nat} {d : Dk} (h : Live n d) {a : Nat} (ha : a < n) : peek d (a : Int) = d.lies.getD a .empty := by
  unfold Go.Proofs.YtfcocbgdmmeikaaGreatDoor.peek hasB
  rw [h.len, Int.toNat_natCast]
  simp
  omega
/-- Block q is an array of texts (its type T). -/
def Want (T : TypeId) (q : Nat) (L : List ByteArray) (w : World) : Prop := w.heap[q]? = some (.cells (L.map Value.string).toArray T (0, 0))
theorem Want.cell {T : TypeId} {q : Nat} {L : List ByteArray} {w : World} (h : Want T q L w) {i : Nat} (hi : i < L.length) : w.cell? ⟨q, i, none⟩ = some (.string (L.getD i .empty)) := by
  rw [cell_of h]
  simp [hi]
theorem Want.fz {T : TypeId} {q : Nat} {L : List ByteArray} {w : World} (h : Want T q L w) (i : Nat) : w.frozen? ⟨q, i, none⟩ = false := fz_of h i
theorem Want.lt {T : TypeId} {q : Nat} {L : List ByteArray} {w : World} (h : Want T q L w) : q < w.heap.size := (Array.getElem?_eq_some_iff.1 h).1
theorem Want.old {T : TypeId} {q : Nat} {L : List ByteArray} {w w' : World} (h : Want T q L w) (hb : Below w.heap.size w w') : Want T q L w' := (hb.block q h.lt).trans h
theorem Want.set {T : TypeId} {q : Nat} {L : List ByteArray} {w : World} (h : Want T q L w) (i : Nat) (s : ByteArray) : Want T q (L.set i s) (w.setCell ⟨q, i, none⟩ (.string s)) := by
  have := heap_set (i := i) h (.string s)
  rw [strs_set] at this
  exact this
theorem Want.kept {T : TypeId} {q : Nat} {L : List ByteArray} {w w' : World} {B : Nat} (h : Want T q L w) (hf : FrT B w w') (h1 : T ≠ 89) (h2 : T ≠ 9) (h3 : T ≠ 64) : Want T q L w' := hf.cellT h h1 h2 h3
theorem DiskIn.want {B p : Nat} {d : Dk} {w : World} (h : DiskIn B p d w) {T : TypeId} {q : Nat} {L : List ByteArray} (hq : Want T q L w) (h1 : T ≠ 89) (h2 : T ≠ 9) (h3 : T ≠ 64) (i : Nat) (v : Value) : DiskIn B p d (w.setCell ⟨q, i, none⟩ v) :=
  h.other hq h1 h2 h3 ((Only.refl _ _).setCell _ _)
theorem and_mask (n : Int) (j : Nat) (m : Int) (hj : j < 63) (hm : (BitVec.ofInt 64 m).toNat = 2 ^ j - 1) : bits .and .i64 n m = n % ((2 ^ j : Nat) : Int) := by
  have key : (BitVec.ofInt 64 n &&& BitVec.ofInt 64 m).toNat = (n % ((2 ^ 64 : Nat) : Int)).toNat % 2 ^ j := by
    rw [BitVec.toNat_and, BitVec.toNat_ofInt, hm, Nat.and_two_pow_sub_one_eq_mod]
  show IntKind.i64.wrap ((BitVec.ofInt 64 n &&& BitVec.ofInt 64 m).toNat : Nat) = n % ((2 ^ j : Nat) : Int)
  have hp : (2 : Nat) ^ j ≤ 2 ^ 62 := Nat.pow_le_pow_right (by decide) (by omega)
  have hpos : 0 < 2 ^ j := Nat.pow_pos (by decide)
  have hd : (2 : Nat) ^ j ∣ 2 ^ 64 := Nat.pow_dvd_pow 2 (by omega)
  have e1 : ((n % ((2 ^ 64 : Nat) : Int)).toNat % 2 ^ j : Nat) = (n % ((2 ^ j : Nat) : Int)).toNat := by
    have h0 := Int.emod_nonneg n (show ((2 ^ 64 : Nat) : Int) ≠ 0 by decide)
    have h1 := Int.emod_nonneg n (show ((2 ^ j : Nat) : Int) ≠ 0 by omega)
    have : (((n % ((2 ^ 64 : Nat) : Int)).toNat % 2 ^ j : Nat) : Int) = n % ((2 ^ j : Nat) : Int) := by
      rw [Int.natCast_emod, Int.toNat_of_nonneg h0, Int.emod_emod_of_dvd n (Int.natCast_dvd_natCast.2 hd)]
    omega
  rw [key, e1]
  have h1 := Int.emod_nonneg n (show ((2 ^ j : Nat) : Int) ≠ 0 by omega)
  have h2 := Int.emod_lt_of_pos n (show (0 : Int) < ((2 ^ j : Nat) : Int) by omega)
  rw [Int.toNat_of_nonneg h1]
  exact IntWalk.i64_in _ (by omega)
theorem and7 (n : Int) : bits .and .i64 n 7 = n % 8 := and_mask n 3 7 (by decide) (by decide)
theorem and3 (n : Int) : bits .and .i64 n 3 = n % 4 := and_mask n 2 3 (by decide) (by decide)
theorem mod_nat (z : Int) (m : Nat) (hm : 0 < m) : ∃ k : Nat, z % (m : Int) = (k : Int) ∧ k < m := by
  have h1 := Int.emod_nonneg z (show (m : Int) ≠ 0 by omega)
  have h2 := Int.emod_lt_of_pos z (show (0 : Int) < m by omega)
  exact ⟨(z % m).toNat, by omega, by omega⟩
theorem cell_below {B : Nat} {w w' : World} (h : Below B w w') {b o : Nat} (hb : b < B) : w'.cell? ⟨b, o, none⟩ = w.cell? ⟨b, o, none⟩ := h.cell (p := ⟨b, o, none⟩) hb
end Go.Proofs.YtfcocbgdmmeikaaGreatDoor
