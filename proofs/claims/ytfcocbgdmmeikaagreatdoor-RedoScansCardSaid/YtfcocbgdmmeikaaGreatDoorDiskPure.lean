/-
  Plain mathematics of a disk: what lies, a cache of writes, power. No walk, no program.
-/
import Derived.Lib.Strings
namespace Go.Proofs.YtfcocbgdmmeikaaGreatDoor.Dsk
open Go

/-- What lies in each sector, the cache's writes, is there power, is it armed, how many steps work still, how many were done. -/
structure Dk where
  lies : List ByteArray
  cache : List (Nat × ByteArray)
  on : Bool
  armed : Bool
  left : Nat
  steps : Nat

/-- n bytes 0. -/
def zs (n : Nat) : ByteArray := ⟨(List.replicate n (0 : UInt8)).toArray⟩
theorem zs_size (n : Nat) : (zs n).size = n := by
  show (List.replicate n (0 : UInt8)).toArray.size = n
  rw [List.size_toArray, List.length_replicate]
def zeroB : ByteArray := zs 256
/-- The cache's write k. -/
def cAt (c : List (Nat × ByteArray)) (k : Nat) : Nat × ByteArray := c.getD k (0, .empty)
/-- What sector a reads as, where the first k writes count. -/
def rdK (L : List ByteArray) (c : List (Nat × ByteArray)) (a : Nat) : Nat → ByteArray
  | 0 => L.getD a .empty
  | k + 1 => if (cAt c k).1 = a then (cAt c k).2 else rdK L c a k
/-- What lies, once those of the first k writes that are picked do. -/
def stK (pick : Nat → Bool) (L : List ByteArray) (c : List (Nat × ByteArray)) : Nat → List ByteArray
  | 0 => L
  | k + 1 => if pick k then (stK pick L c k).set (cAt c k).1 (cAt c k).2 else stK pick L c k
def all : Nat → Bool := fun _ => true
/-- Pick i is odd. -/
def odd (ps : List Int) (i : Nat) : Bool := decide (i < ps.length) && decide ((ps.getD i 0).tmod 2 ≠ 0)

def new (n : Nat) : Dk := ⟨List.replicate n zeroB, [], true, false, 0, 0⟩
def zero : Dk := ⟨[], [], false, false, 0, 0⟩
def read (d : Dk) (a : Nat) : ByteArray := rdK d.lies d.cache a d.cache.length
/-- May one more step be done? -/
def may (d : Dk) : Bool := d.on && !(d.armed && decide (d.left = 0))
def err (d : Dk) : Int := if may d then 0 else 14
def step (d : Dk) : Dk := if may d then ⟨d.lies, d.cache, true, d.armed, if d.armed then d.left - 1 else d.left, d.steps + 1⟩ else ⟨d.lies, d.cache, false, d.armed, d.left, d.steps⟩
def put (d : Dk) (a : Nat) (s : ByteArray) : Dk := ⟨d.lies, d.cache ++ [(a, s)], d.on, d.armed, d.left, d.steps⟩
def settle (d : Dk) (pick : Nat → Bool) : Dk := ⟨stK pick d.lies d.cache d.cache.length, [], d.on, d.armed, d.left, d.steps⟩
def write (d : Dk) (a : Nat) (s : ByteArray) : Dk := if may d then put (step d) a s else step d
def flush (d : Dk) : Dk := if may d then settle (step d) all else step d
def arm (d : Dk) (n : Nat) : Dk := if d.on then ⟨d.lies, d.cache, d.on, true, n, d.steps⟩ else d
def crash (d : Dk) (pick : Nat → Bool) : Dk := ⟨stK pick d.lies d.cache d.cache.length, [], decide (0 < d.lies.length), false, d.left, d.steps⟩

/-- Each write is one of a sector that there is. -/
def fits (d : Dk) : Prop := ∀ x ∈ d.cache, x.1 < d.lies.length

theorem cAt_lt (c : List (Nat × ByteArray)) (k : Nat) (h : k < c.length) : cAt c k ∈ c := by
  unfold cAt
  rw [List.getD_eq_getElem?_getD, List.getElem?_eq_getElem h]
  exact List.getElem_mem h
theorem cAt_get (c : List (Nat × ByteArray)) (k : Nat) (h : k < c.length) : c[k]? = some (cAt c k) := by
  unfold cAt
  rw [List.getD_eq_getElem?_getD, List.getElem?_eq_getElem h]
  rfl
theorem stK_length (pick : Nat → Bool) (L : List ByteArray) (c : List (Nat × ByteArray)) : ∀ k, (stK pick L c k).length = L.length
  | 0 => rfl
  | k + 1 => by
    unfold stK
    split
    · rw [List.length_set, stK_length]
    · exact stK_length pick L c k
theorem step_lies (d : Dk) : (step d).lies = d.lies := by unfold step; split <;> rfl
theorem step_cache (d : Dk) : (step d).cache = d.cache := by unfold step; split <;> rfl
theorem write_lies (d : Dk) (a : Nat) (s : ByteArray) : (write d a s).lies = d.lies := by
  unfold write; split
  · exact step_lies d
  · exact step_lies d
theorem flush_len (d : Dk) : (flush d).lies.length = d.lies.length := by
  unfold flush; split
  · simp only [settle, stK_length, step_lies]
  · rw [step_lies]
theorem fits_step {d : Dk} (h : fits d) : fits (step d) := by
  intro x hx
  rw [step_cache] at hx
  rw [step_lies]
  exact h x hx
theorem fits_write {d : Dk} (h : fits d) (a : Nat) (s : ByteArray) (ha : a < d.lies.length) : fits (write d a s) := by
  unfold write
  split
  · intro x hx
    simp only [put, step_cache, List.mem_append, List.mem_singleton] at hx
    simp only [put, step_lies]
    rcases hx with hx | rfl
    · exact h x hx
    · exact ha
  · exact fits_step h
theorem rdK_snoc (L : List ByteArray) (c : List (Nat × ByteArray)) (x : Nat × ByteArray) (a : Nat) : ∀ k, k ≤ c.length → rdK L (c ++ [x]) a k = rdK L c a k
  | 0, _ => rfl
  | k + 1, h => by
    have e : cAt (c ++ [x]) k = cAt c k := by
      unfold cAt
      rw [List.getD_eq_getElem?_getD, List.getD_eq_getElem?_getD, List.getElem?_append_left (by omega)]
    unfold rdK
    rw [e, rdK_snoc L c x a k (by omega)]
theorem read_put (d : Dk) (b : Nat) (s : ByteArray) (a : Nat) : read (put d b s) a = if b = a then s else read d a := by
  have e : cAt (d.cache ++ [(b, s)]) d.cache.length = (b, s) := by
    unfold cAt
    rw [List.getD_eq_getElem?_getD, List.getElem?_append_right (Nat.le_refl _)]
    simp
  show rdK d.lies (d.cache ++ [(b, s)]) a (d.cache ++ [(b, s)]).length = _
  rw [List.length_append, List.length_singleton]
  unfold rdK
  rw [e, rdK_snoc _ _ _ _ _ (Nat.le_refl _)]
  rfl
/-- All writes settled: each sector lies as it was read. -/
theorem stK_all (L : List ByteArray) (c : List (Nat × ByteArray)) (a : Nat) (h : a < L.length) : ∀ k, (stK all L c k).getD a .empty = rdK L c a k
  | 0 => rfl
  | k + 1 => by
    have ih := stK_all L c a h k
    unfold stK rdK
    rw [if_pos (show all k = true from rfl)]
    by_cases e : (cAt c k).1 = a
    · rw [if_pos e, e, List.getD_eq_getElem?_getD, List.getElem?_set_self (by rw [stK_length]; exact h)]
      rfl
    · rw [if_neg e, ← ih, List.getD_eq_getElem?_getD, List.getElem?_set_ne e, ← List.getD_eq_getElem?_getD]
/-- Some writes settled: a sector lies as it lay, or as one of its writes has it. -/
theorem stK_one (pick : Nat → Bool) (L : List ByteArray) (c : List (Nat × ByteArray)) (a : Nat) (h : a < L.length) : ∀ k, (stK pick L c k).getD a .empty = L.getD a .empty ∨ ∃ j, j < k ∧ (cAt c j).1 = a ∧ (stK pick L c k).getD a .empty = (cAt c j).2
  | 0 => .inl rfl
  | k + 1 => by
    have ih := stK_one pick L c a h k
    unfold stK
    by_cases hp : pick k = true
    · rw [if_pos hp]
      by_cases e : (cAt c k).1 = a
      · refine .inr ⟨k, by omega, e, ?_⟩
        rw [e, List.getD_eq_getElem?_getD, List.getElem?_set_self (by rw [stK_length]; exact h)]
        rfl
      · rw [List.getD_eq_getElem?_getD, List.getElem?_set_ne e, ← List.getD_eq_getElem?_getD]
        rcases ih with ih | ⟨j, h1, h2, h3⟩
        · exact .inl ih
        · exact .inr ⟨j, by omega, h2, h3⟩
    · rw [if_neg hp]
      rcases ih with ih | ⟨j, h1, h2, h3⟩
      · exact .inl ih
      · exact .inr ⟨j, by omega, h2, h3⟩
theorem zeroB_size : zeroB.size = 256 := zs_size 256
end Go.Proofs.YtfcocbgdmmeikaaGreatDoor.Dsk
