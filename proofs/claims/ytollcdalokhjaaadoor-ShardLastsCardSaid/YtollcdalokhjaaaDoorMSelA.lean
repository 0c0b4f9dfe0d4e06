/-
  Several texts in one (SelPure, SelMem).
-/
import Derived.Test.YtollcdalokhjaaaDoorMRec
import Derived.Test.YtollcdalokhjaaaDoorMOctL
import Derived.Test.YtollcdalokhjaaaDoorMOct
import Derived.Test.YtollcdalokhjaaaDoorMShaB
import Derived.Test.YtollcdalokhjaaaDoorMShaA
/-! ## Package seal, plain mathematics: what freezes, heads and stones are written as, and what bytes are read as; the program's way to read and the document's are one. -/
namespace Go.Proofs.YtollcdalokhjaaaDoor
open Go.RowKit OctI

/-- What is said of a shard, of the log, and of what is left, by plain values. -/
structure FzR where
  win : Int
  cnt : Int
  root : List UInt8
structure HdR where
  size : Int
  root : List UInt8
  clock : Int
  mac : List UInt8
structure StR where
  fz : FzR
  tim : Int
  mac : List UInt8
def fzCs (f : FzR) : List Value := [.int .i64 f.win, .int .i64 f.cnt] ++ f.root.map u8V
def hdCs (h : HdR) : List Value := [.int .i64 h.size] ++ (h.root.map u8V ++ ([.int .i64 h.clock] ++ h.mac.map u8V))
def stCs (t : StR) : List Value := fzCs t.fz ++ ([.int .i64 t.tim] ++ t.mac.map u8V)
def fzV (f : FzR) : Value := .agg (fzCs f).toArray
def hdV (h : HdR) : Value := .agg (hdCs h).toArray
def stV (t : StR) : Value := .agg (stCs t).toArray
structure FzOk (f : FzR) : Prop where
  win : i64R f.win
  cnt : i64R f.cnt
  root : f.root.length = 32
structure HdOk (h : HdR) : Prop where
  size : i64R h.size
  root : h.root.length = 32
  clock : i64R h.clock
  mac : h.mac.length = 32
structure StOk (t : StR) : Prop where
  fz : FzOk t.fz
  tim : i64R t.tim
  mac : t.mac.length = 32
def z32 : List UInt8 := List.replicate 32 0
theorem z32_length : z32.length = 32 := by simp [z32]
def fz0 : FzR := ⟨0, 0, z32⟩
def hd0 : HdR := ⟨0, z32, 0, z32⟩
def st0 : StR := ⟨fz0, 0, z32⟩
theorem fzCs_length {f : FzR} (h : f.root.length = 32) : (fzCs f).length = 34 := by simp [fzCs, h]
theorem hdCs_length {f : HdR} (h : f.root.length = 32) (h' : f.mac.length = 32) : (hdCs f).length = 66 := by simp [hdCs, h, h']
theorem stCs_length {f : StR} (h : f.fz.root.length = 32) (h' : f.mac.length = 32) : (stCs f).length = 67 := by simp [stCs, fzCs, h, h']

/-- A time that may be. -/
def timB (n : Int) : Bool := mayB n 1125899906842624
def fzB (f : FzR) : Bool := timB f.win && (decide (1 ≤ f.cnt) && decide (f.cnt ≤ 4000))
def hdB (h : HdR) : Bool := mayB h.size 1099511627776 && timB h.clock
def stB (t : StR) : Bool := fzB t.fz && timB t.tim
/-- A hash as a text. -/
def hashL (D : List UInt8) : List UInt8 := txtL ⟨D.toArray⟩
def fzL (f : FzR) : List UInt8 := 70 :: (Oct.putL (u64N f.win) ++ (Oct.putL (u64N f.cnt) ++ hashL f.root))
def hdL (h : HdR) : List UInt8 := 72 :: (Oct.putL (u64N h.size) ++ (hashL h.root ++ Oct.putL (u64N h.clock)))
def stL (t : StR) : List UInt8 := 84 :: (txtL ⟨(fzL t.fz).toArray⟩ ++ Oct.putL (u64N t.tim))
def hdF (h : HdR) : List UInt8 := hdL h ++ hashL h.mac
def stF (t : StR) : List UInt8 := stL t ++ hashL t.mac
def tB (l : List UInt8) : ByteArray := ⟨l.toArray⟩
/-- What is told: the bytes of one that may be, nothing of any other one. -/
def fzT (f : FzR) : ByteArray := if fzB f then tB (fzL f) else tB []
def hdT (h : HdR) : ByteArray := if hdB h then tB (hdL h) else tB []
def stT (t : StR) : ByteArray := if stB t then tB (stL t) else tB []
def hdG (h : HdR) : ByteArray := if hdB h then tB (hdF h) else tB []
def stG (t : StR) : ByteArray := if stB t then tB (stF t) else tB []
def fzZ (f : FzR) : Int := if fzB f then 0 else 1
def hdZ (h : HdR) : Int := if hdB h then 0 else 1
def stZ (t : StR) : Int := if stB t then 0 else 1
theorem tB_inj {a b : List UInt8} : tB a = tB b ↔ a = b := ⟨fun h => by simpa [tB] using h, fun h => by rw [h]⟩
theorem tB_data (a : List UInt8) : (tB a).data.toList = a := rfl
theorem tB_of (s : ByteArray) : tB s.data.toList = s := rfl

/-! ### Sizes -/
theorem hashL_length {D : List UInt8} (h : D.length = 32) : (hashL D).length ≤ 41 := by
  have := putL_le (ByteArray.size ⟨D.toArray⟩) (by simp [ByteArray.size, h])
  have e : hashL D = Oct.putL (ByteArray.size ⟨D.toArray⟩) ++ D := rfl
  rw [e, List.length_append, h]; omega
theorem fzL_length {f : FzR} (h : f.root.length = 32) : (fzL f).length ≤ 60 := by
  have h1 := putL_le (u64N f.win) (u64N_lt _)
  have h2 := putL_le (u64N f.cnt) (u64N_lt _)
  have h3 := hashL_length h
  simp only [fzL, List.length_cons, List.length_append]; omega
theorem hdL_length {f : HdR} (h : f.root.length = 32) : (hdL f).length ≤ 60 := by
  have h1 := putL_le (u64N f.size) (u64N_lt _)
  have h2 := putL_le (u64N f.clock) (u64N_lt _)
  have h3 := hashL_length h
  simp only [hdL, List.length_cons, List.length_append]; omega
theorem stL_length {f : StR} (h : f.fz.root.length = 32) : (stL f).length ≤ 80 := by
  have h1 := fzL_length h
  have h2 := putL_le (u64N f.tim) (u64N_lt _)
  have h3 := putL_le (ByteArray.size ⟨(fzL f.fz).toArray⟩) (by simp [ByteArray.size]; omega)
  have e : stL f = 84 :: (Oct.putL (ByteArray.size ⟨(fzL f.fz).toArray⟩) ++ fzL f.fz ++ Oct.putL (u64N f.tim)) := rfl
  rw [e]
  simp only [List.length_cons, List.length_append]; omega

/-! ### Numbers that may be -/
theorem timB_iff (n : Int) : timB n = true ↔ 0 ≤ n ∧ n ≤ 1125899906842624 := by simp [timB, mayB]
theorem fzB_iff (f : FzR) : fzB f = true ↔ (0 ≤ f.win ∧ f.win ≤ 1125899906842624) ∧ 1 ≤ f.cnt ∧ f.cnt ≤ 4000 := by simp [fzB, timB, mayB]
theorem hdB_iff (h : HdR) : hdB h = true ↔ (0 ≤ h.size ∧ h.size ≤ 1099511627776) ∧ 0 ≤ h.clock ∧ h.clock ≤ 1125899906842624 := by simp [hdB, timB, mayB]
theorem stB_iff (t : StR) : stB t = true ↔ fzB t.fz = true ∧ 0 ≤ t.tim ∧ t.tim ≤ 1125899906842624 := by simp [stB, timB, mayB]
theorem u64N_nn (n : Nat) (h : n < 18446744073709551616) : u64N (n : Int) = n := by
  unfold u64N
  omega
theorem u64N_toI (z : Int) (h : 0 ≤ z) (h2 : z ≤ 1125899906842624) : (u64N z : Int) = z := u64N_nat z h (by omega)

/-! ### Hashes that are read -/
/-- What a text of at most 32 bytes is copied to. -/
def pad32 (t : List UInt8) : List UInt8 := t ++ List.replicate (32 - t.length) 0
theorem pad32_length {t : List UInt8} (h : t.length ≤ 32) : (pad32 t).length = 32 := by simp [pad32]; omega
theorem pad32_of {t : List UInt8} (h : t.length = 32) : pad32 t = t := by simp [pad32, h]
/-- The program's hash at a scanner's place, and the document's; what is left behind it. -/
def hsV (st : Option (List UInt8)) : List UInt8 := pad32 (textV st 32)
def hsS (st : Option (List UInt8)) : Option (List UInt8) := textS st 32
def rhV (st : Option (List UInt8)) : List UInt8 := if (textV st 32).length = 32 then textV st 32 else z32
def rhS (st : Option (List UInt8)) : Option (List UInt8) := if (textV st 32).length = 32 then textS st 32 else none
theorem numV_mostN (st : Option (List UInt8)) (most : Nat) : numV st most ≤ most := by
  unfold numV
  split
  · exact Nat.zero_le _
  · omega
theorem textV_mostN (st : Option (List UInt8)) (most : Nat) : (textV st most).length ≤ most := by
  have := numV_mostN st most
  unfold textV
  split
  · exact Nat.zero_le _
  · rw [List.length_take]; omega
theorem hsV_length (st : Option (List UInt8)) : (hsV st).length = 32 := pad32_length (textV_mostN st 32)
theorem rhV_length (st : Option (List UInt8)) : (rhV st).length = 32 := by
  unfold rhV
  split
  · assumption
  · exact z32_length
theorem numS_off (most : Int) : numS none most = none := by simp [numS, longS]
theorem textS_off (most : Int) : textS none most = none := by simp [textS, numS_off]
theorem rhS_off : rhS none = none := by unfold rhS; split <;> simp [textS_off]
theorem rh_inv {l r : List UInt8} (h : rhS (some l) = some r) : l = hashL (rhV (some l)) ++ r ∧ hsV (some l) = rhV (some l) := by
  unfold rhS at h
  split at h
  · rename_i e
    have e2 : rhV (some l) = textV (some l) 32 := if_pos e
    rw [e2]
    exact ⟨text_inv h, pad32_of e⟩
  · cases h
theorem hash_parts (D r : List UInt8) (h : D.length = 32) : textV (some (hashL D ++ r)) 32 = D ∧ textS (some (hashL D ++ r)) 32 = some r := by
  obtain ⟨t1, t2⟩ := text_parts ⟨D.toArray⟩ r 32 (by simp [ByteArray.size, h]) (by simp [ByteArray.size, h])
  exact ⟨t1, t2⟩
theorem hs_put (D r : List UInt8) (h : D.length = 32) : hsV (some (hashL D ++ r)) = D ∧ hsS (some (hashL D ++ r)) = some r ∧ rhV (some (hashL D ++ r)) = D ∧ rhS (some (hashL D ++ r)) = some r := by
  obtain ⟨t1, t2⟩ := hash_parts D r h
  refine ⟨?_, t2, ?_, ?_⟩
  · unfold hsV; rw [t1]; exact pad32_of h
  · unfold rhV; rw [t1]; exact if_pos h
  · unfold rhS; rw [t1, if_pos h, t2]
theorem num_put' (n : Nat) (r : List UInt8) (most : Nat) (hn : n ≤ most) (hm : most < 9223372036854775808) : numV (some (Oct.putL n ++ r)) most = n ∧ numS (some (Oct.putL n ++ r)) most = some r :=
  ⟨numV_put n (by omega) r most (by omega), numS_put n (by omega) r most (by omega)⟩

/-! ### What bytes are read as -/
/-- The states of a scanner behind each part; what is read there. -/
def fz1 (st : Option (List UInt8)) : Option (List UInt8) := numS st 1125899906842624
def fz2 (st : Option (List UInt8)) : Option (List UInt8) := numS (fz1 st) 4000
def fzGet (hV : Option (List UInt8) → List UInt8) (st : Option (List UInt8)) : FzR := ⟨numV st 1125899906842624, numV (fz1 st) 4000, hV (fz2 st)⟩
def hd1 (st : Option (List UInt8)) : Option (List UInt8) := numS st 1099511627776
def hd2 (hS : Option (List UInt8) → Option (List UInt8)) (st : Option (List UInt8)) : Option (List UInt8) := hS (hd1 st)
def hd3 (hS : Option (List UInt8) → Option (List UInt8)) (st : Option (List UInt8)) : Option (List UInt8) := numS (hd2 hS st) 1125899906842624
def hd4 (hS : Option (List UInt8) → Option (List UInt8)) (st : Option (List UInt8)) : Option (List UInt8) := hS (hd3 hS st)
def hdGet (hV : Option (List UInt8) → List UInt8) (hS : Option (List UInt8) → Option (List UInt8)) (st : Option (List UInt8)) : HdR := ⟨numV st 1099511627776, hV (hd1 st), numV (hd2 hS st) 1125899906842624, hV (hd3 hS st)⟩
def stq1 (m : Int) (st : Option (List UInt8)) : Option (List UInt8) := textS st m
def stq2 (m : Int) (st : Option (List UInt8)) : Option (List UInt8) := numS (stq1 m st) 1125899906842624
def stq3 (m : Int) (hS : Option (List UInt8) → Option (List UInt8)) (st : Option (List UInt8)) : Option (List UInt8) := hS (stq2 m st)
def stGet (m : Int) (rd : List UInt8 → Option FzR) (hV : Option (List UInt8) → List UInt8) (st : Option (List UInt8)) : StR := ⟨(rd (textV st m)).getD fz0, numV (stq1 m st) 1125899906842624, hV (stq2 m st)⟩
/-- The program reads: what it finds behind the mark, if that has these bytes. -/
def readG {T : Type} (get : Option (List UInt8) → T) (ok : T → Bool) (byt : T → List UInt8) : List UInt8 → Option T
  | [] => none
  | b :: l => if ok (get (some l)) = true ∧ byt (get (some l)) = b :: l then some (get (some l)) else none
def fzRd : List UInt8 → Option FzR := readG (fzGet hsV) fzB fzL
def hdRd : List UInt8 → Option HdR := readG (hdGet hsV hsS) hdB hdF
def stRd : List UInt8 → Option StR := readG (stGet 16777216 fzRd hsV) stB stF
/-- The document's scanner behind a letter, and what it reads. -/
def begS (m : UInt8) : List UInt8 → Option (List UInt8)
  | [] => none
  | b :: l => if b = m then some l else none
def rfzRd (s : List UInt8) : Option FzR := if rhS (fz2 (begS 70 s)) = some [] ∧ fzB (fzGet rhV (begS 70 s)) = true then some (fzGet rhV (begS 70 s)) else none
def rhdRd (s : List UInt8) : Option HdR := if hd4 rhS (begS 72 s) = some [] then some (hdGet rhV rhS (begS 72 s)) else none
def rstRd (s : List UInt8) : Option StR := if stq3 200 rhS (begS 84 s) = some [] ∧ (rfzRd (textV (begS 84 s) 200)).isSome = true then some (stGet 200 rfzRd rhV (begS 84 s)) else none
def rdZ {T : Type} (o : Option T) : Int := if o.isSome then 0 else 10
theorem readG_some {T : Type} {get : Option (List UInt8) → T} {ok : T → Bool} {byt : T → List UInt8} {s : List UInt8} {v : T} (h : readG get ok byt s = some v) : ∃ l, v = get (some l) ∧ ok v = true ∧ byt v = s := by
  cases s with
  | nil => cases h
  | cons b l =>
    have h' : (if ok (get (some l)) = true ∧ byt (get (some l)) = b :: l then some (get (some l)) else none) = some v := h
    clear h
    split at h'
    · rename_i hc
      injection h' with h
      subst h
      exact ⟨l, rfl, hc.1, hc.2⟩
    · cases h'
theorem readG_of {T : Type} {get : Option (List UInt8) → T} {ok : T → Bool} {byt : T → List UInt8} {b : UInt8} {l : List UInt8} {v : T} (h : get (some l) = v) (hk : ok v = true) (hb : byt v = b :: l) : readG get ok byt (b :: l) = some v := by
  subst h
  exact if_pos ⟨hk, hb⟩
theorem begS_inv {m : UInt8} {s l : List UInt8} (h : begS m s = some l) : s = m :: l := by
  cases s with
  | nil => cases h
  | cons b t =>
    have h' : (if b = m then some t else none) = some l := h
    clear h
    split at h'
    · rename_i e; injection h' with h; rw [e, h]
    · cases h'
theorem begS_of (m : UInt8) (l : List UInt8) : begS m (m :: l) = some l := if_pos rfl

theorem fz_put (hV : Option (List UInt8) → List UInt8) (f : FzR) (r : List UInt8) (hb : fzB f = true) (hv : hV (some (hashL f.root ++ r)) = f.root) :
    fzGet hV (some (Oct.putL (u64N f.win) ++ (Oct.putL (u64N f.cnt) ++ (hashL f.root ++ r)))) = f ∧ fz2 (some (Oct.putL (u64N f.win) ++ (Oct.putL (u64N f.cnt) ++ (hashL f.root ++ r)))) = some (hashL f.root ++ r) := by
  obtain ⟨⟨h1, h2⟩, h3, h4⟩ := (fzB_iff f).1 hb
  have e1 := u64N_toI f.win h1 h2
  have e2 := u64N_toI f.cnt (by omega) (by omega)
  obtain ⟨n1, m1⟩ := num_put' (u64N f.win) (Oct.putL (u64N f.cnt) ++ (hashL f.root ++ r)) 1125899906842624 (by omega) (by decide)
  obtain ⟨n2, m2⟩ := num_put' (u64N f.cnt) (hashL f.root ++ r) 4000 (by omega) (by decide)
  have s1 : fz1 (some (Oct.putL (u64N f.win) ++ (Oct.putL (u64N f.cnt) ++ (hashL f.root ++ r)))) = some (Oct.putL (u64N f.cnt) ++ (hashL f.root ++ r)) := m1
  have s2 : fz2 (some (Oct.putL (u64N f.win) ++ (Oct.putL (u64N f.cnt) ++ (hashL f.root ++ r)))) = some (hashL f.root ++ r) := by unfold fz2; rw [s1]; exact m2
  refine ⟨?_, s2⟩
  unfold fzGet
  rw [s1, s2, hv]
  have q1 : ((numV (some (Oct.putL (u64N f.win) ++ (Oct.putL (u64N f.cnt) ++ (hashL f.root ++ r)))) 1125899906842624 : Nat) : Int) = f.win := by
    have : (numV (some (Oct.putL (u64N f.win) ++ (Oct.putL (u64N f.cnt) ++ (hashL f.root ++ r)))) 1125899906842624) = u64N f.win := n1
    rw [this, e1]
  have q2 : ((numV (some (Oct.putL (u64N f.cnt) ++ (hashL f.root ++ r))) 4000 : Nat) : Int) = f.cnt := by
    have : (numV (some (Oct.putL (u64N f.cnt) ++ (hashL f.root ++ r))) 4000) = u64N f.cnt := n2
    rw [this, e2]
  rw [q1, q2]
/-- The program reads just a freeze that may be, by its bytes. -/
theorem fzRd_iff (s : List UInt8) (f : FzR) : fzRd s = some f ↔ fzB f = true ∧ f.root.length = 32 ∧ fzL f = s := by
  constructor
  · intro h
    obtain ⟨l, rfl, h1, h2⟩ := readG_some h
    exact ⟨h1, hsV_length _, h2⟩
  · rintro ⟨h1, h2, rfl⟩
    refine readG_of ?_ h1 rfl
    have := (fz_put hsV f [] h1 (hs_put f.root [] h2).1).1
    rwa [List.append_nil] at this
theorem num_inv' {st : Option (List UInt8)} {r : List UInt8} (most : Nat) {M : Int} (hM : M = (most : Int)) (h : numS st M = some r) : ∃ l, st = some l ∧ l = Oct.putL (numV st M) ++ r ∧ numV st M ≤ most := by
  subst hM
  cases st with
  | none => rw [numS_off] at h; cases h
  | some l => exact ⟨l, rfl, numS_inv h⟩
theorem rh_inv' {st : Option (List UInt8)} {r : List UInt8} (h : rhS st = some r) : ∃ l, st = some l ∧ l = hashL (rhV st) ++ r := by
  cases st with
  | none => rw [rhS_off] at h; cases h
  | some l => exact ⟨l, rfl, (rh_inv h).1⟩
theorem rfzRd_iff (s : List UInt8) (f : FzR) : rfzRd s = some f ↔ fzB f = true ∧ f.root.length = 32 ∧ fzL f = s := by
  constructor
  · intro h
    unfold rfzRd at h
    generalize hB : begS 70 s = B at h
    split at h
    · rename_i hc
      injection h with h
      subst h
      refine ⟨hc.2, rhV_length _, ?_⟩
      obtain ⟨l2, e2, h2⟩ := rh_inv' hc.1
      obtain ⟨l1, e1, h1, b1⟩ := num_inv' (M := 4000) 4000 rfl e2
      obtain ⟨l0, e0, h0, b0⟩ := num_inv' (M := 1125899906842624) 1125899906842624 rfl e1
      rw [begS_inv (hB.trans e0)]
      clear hB
      unfold fzGet fzL
      simp only
      rw [u64N_nn _ (by omega), u64N_nn _ (by omega)]
      rw [h0, h1, h2, List.append_nil]
    · cases h
  · rintro ⟨h1, h2, rfl⟩
    obtain ⟨-, -, p1, p2⟩ := hs_put f.root [] h2
    obtain ⟨g1, g2⟩ := fz_put rhV f [] h1 p1
    rw [List.append_nil] at g1 g2 p2
    have e : begS 70 (fzL f) = some (Oct.putL (u64N f.win) ++ (Oct.putL (u64N f.cnt) ++ hashL f.root)) := begS_of 70 _
    unfold rfzRd
    rw [e, g1, g2, p2]
    exact if_pos ⟨rfl, h1⟩
theorem opt_same {T : Type} {a b : Option T} (h : ∀ v, a = some v ↔ b = some v) : a = b := by
  cases a with
  | none =>
    cases b with
    | none => rfl
    | some v => exact absurd ((h v).2 rfl) (by simp)
  | some v => exact ((h v).1 rfl).symm
theorem fz_same (s : List UInt8) : rfzRd s = fzRd s := opt_same fun v => (rfzRd_iff s v).trans (fzRd_iff s v).symm

theorem hd_put (hV : Option (List UInt8) → List UInt8) (hS : Option (List UInt8) → Option (List UInt8)) (f : HdR) (hb : hdB f = true) (hp : ∀ D r, D.length = 32 → hV (some (hashL D ++ r)) = D ∧ hS (some (hashL D ++ r)) = some r) (hr : f.root.length = 32) (hm : f.mac.length = 32) :
    hdGet hV hS (some (Oct.putL (u64N f.size) ++ (hashL f.root ++ (Oct.putL (u64N f.clock) ++ hashL f.mac)))) = f ∧ hd4 hS (some (Oct.putL (u64N f.size) ++ (hashL f.root ++ (Oct.putL (u64N f.clock) ++ hashL f.mac)))) = some [] := by
  obtain ⟨⟨h1, h2⟩, h3, h4⟩ := (hdB_iff f).1 hb
  have e1 := u64N_toI f.size h1 (by omega)
  have e2 := u64N_toI f.clock h3 h4
  obtain ⟨L, hL⟩ : ∃ L, L = some (Oct.putL (u64N f.size) ++ (hashL f.root ++ (Oct.putL (u64N f.clock) ++ hashL f.mac))) := ⟨_, rfl⟩
  obtain ⟨n1, m1⟩ := num_put' (u64N f.size) (hashL f.root ++ (Oct.putL (u64N f.clock) ++ hashL f.mac)) 1099511627776 (by omega) (by decide)
  obtain ⟨n2, m2⟩ := num_put' (u64N f.clock) (hashL f.mac) 1125899906842624 (by omega) (by decide)
  obtain ⟨k1, k2⟩ := hp f.root (Oct.putL (u64N f.clock) ++ hashL f.mac) hr
  obtain ⟨k3, k4⟩ := hp f.mac [] hm
  rw [List.append_nil] at k3 k4
  rw [← hL] at n1 m1 ⊢
  have s1 : hd1 L = some (hashL f.root ++ (Oct.putL (u64N f.clock) ++ hashL f.mac)) := m1
  have s2 : hd2 hS L = some (Oct.putL (u64N f.clock) ++ hashL f.mac) := by unfold hd2; rw [s1]; exact k2
  have s3 : hd3 hS L = some (hashL f.mac) := by unfold hd3; rw [s2]; exact m2
  have s4 : hd4 hS L = some [] := by unfold hd4; rw [s3]; exact k4
  refine ⟨?_, s4⟩
  unfold hdGet
  rw [s1, s2, s3, k1, k3]
  have q1 : ((numV L 1099511627776 : Nat) : Int) = f.size := by
    have : numV L 1099511627776 = u64N f.size := n1
    rw [this, e1]
  have q2 : ((numV (some (Oct.putL (u64N f.clock) ++ hashL f.mac)) 1125899906842624 : Nat) : Int) = f.clock := by
    have : numV (some (Oct.putL (u64N f.clock) ++ hashL f.mac)) 1125899906842624 = u64N f.clock := n2
    rw [this, e2]
  rw [q1, q2]
theorem hdF_eq (f : HdR) : hdF f = 72 :: (Oct.putL (u64N f.size) ++ (hashL f.root ++ (Oct.putL (u64N f.clock) ++ hashL f.mac))) := by
  unfold hdF hdL
  rw [List.cons_append, List.append_assoc, List.append_assoc]
theorem hdRd_iff (s : List UInt8) (f : HdR) : hdRd s = some f ↔ hdB f = true ∧ f.root.length = 32 ∧ f.mac.length = 32 ∧ hdF f = s := by
  constructor
  · intro h
    obtain ⟨l, rfl, h1, h2⟩ := readG_some h
    exact ⟨h1, hsV_length _, hsV_length _, h2⟩
  · rintro ⟨h1, h2, h3, rfl⟩
    rw [hdF_eq]
    exact readG_of (hd_put hsV hsS f h1 (fun D r h => ⟨(hs_put D r h).1, (hs_put D r h).2.1⟩) h2 h3).1 h1 (hdF_eq f)
theorem rhdRd_iff (s : List UInt8) (f : HdR) : rhdRd s = some f ↔ hdB f = true ∧ f.root.length = 32 ∧ f.mac.length = 32 ∧ hdF f = s := by
  constructor
  · intro h
    unfold rhdRd at h
    generalize hB : begS 72 s = B at h
    split at h
    · rename_i hc
      injection h with h
      subst h
      obtain ⟨l3, e3, h3⟩ := rh_inv' (st := hd3 rhS B) hc
      obtain ⟨l2, e2, h2, b2⟩ := num_inv' (st := hd2 rhS B) (M := 1125899906842624) 1125899906842624 rfl e3
      obtain ⟨l1, e1, h1⟩ := rh_inv' (st := hd1 B) e2
      obtain ⟨l0, e0, h0, b0⟩ := num_inv' (st := B) (M := 1099511627776) 1099511627776 rfl e1
      refine ⟨?_, by simp only [hdGet]; exact rhV_length (hd1 B), by simp only [hdGet]; exact rhV_length (hd3 rhS B), ?_⟩
      · rw [hdB_iff]
        unfold hdGet
        simp only
        have c1 : numV B 1099511627776 ≤ 1099511627776 := b0
        have c2 : numV (hd2 rhS B) 1125899906842624 ≤ 1125899906842624 := b2
        omega
      · rw [begS_inv (hB.trans e0), hdF_eq]
        clear hB
        unfold hdGet
        simp only
        rw [u64N_nn _ (by omega), u64N_nn _ (by omega)]
        rw [h0, h1, h2, h3, List.append_nil]
    · cases h
  · rintro ⟨h1, h2, h3, rfl⟩
    have g := hd_put rhV rhS f h1 (fun D r h => ⟨(hs_put D r h).2.2.1, (hs_put D r h).2.2.2⟩) h2 h3
    unfold rhdRd
    rw [hdF_eq, begS_of, g.1, g.2]
    exact if_pos rfl
theorem hd_same (s : List UInt8) : rhdRd s = hdRd s := opt_same fun v => (rhdRd_iff s v).trans (hdRd_iff s v).symm

theorem st_put (m : Nat) (hm1 : 200 ≤ m) (hm2 : m ≤ 16777216) (rd : List UInt8 → Option FzR) (hrd : ∀ s f, rd s = some f ↔ fzB f = true ∧ f.root.length = 32 ∧ fzL f = s) (hV : Option (List UInt8) → List UInt8) (hS : Option (List UInt8) → Option (List UInt8)) (f : StR) (hb : stB f = true) (hp : ∀ D r, D.length = 32 → hV (some (hashL D ++ r)) = D ∧ hS (some (hashL D ++ r)) = some r) (hr : f.fz.root.length = 32) (hm : f.mac.length = 32) :
    stGet m rd hV (some (txtL ⟨(fzL f.fz).toArray⟩ ++ (Oct.putL (u64N f.tim) ++ hashL f.mac))) = f ∧ stq3 m hS (some (txtL ⟨(fzL f.fz).toArray⟩ ++ (Oct.putL (u64N f.tim) ++ hashL f.mac))) = some [] ∧ textV (some (txtL ⟨(fzL f.fz).toArray⟩ ++ (Oct.putL (u64N f.tim) ++ hashL f.mac))) m = fzL f.fz := by
  obtain ⟨h1, h3, h4⟩ := (stB_iff f).1 hb
  have e2 := u64N_toI f.tim h3 h4
  have hl := fzL_length hr
  have hsz : (ByteArray.size ⟨(fzL f.fz).toArray⟩) = (fzL f.fz).length := by simp [ByteArray.size]
  obtain ⟨t1, t2⟩ := text_parts ⟨(fzL f.fz).toArray⟩ (Oct.putL (u64N f.tim) ++ hashL f.mac) m (by omega) (by omega)
  obtain ⟨n2, m2⟩ := num_put' (u64N f.tim) (hashL f.mac) 1125899906842624 (by omega) (by decide)
  obtain ⟨k3, k4⟩ := hp f.mac [] hm
  rw [List.append_nil] at k3 k4
  obtain ⟨L, hL⟩ : ∃ L, L = some (txtL ⟨(fzL f.fz).toArray⟩ ++ (Oct.putL (u64N f.tim) ++ hashL f.mac)) := ⟨_, rfl⟩
  rw [← hL] at t1 t2 ⊢
  have t1' : textV L m = fzL f.fz := t1
  have s1 : stq1 m L = some (Oct.putL (u64N f.tim) ++ hashL f.mac) := t2
  have s2 : stq2 m L = some (hashL f.mac) := by unfold stq2; rw [s1]; exact m2
  have s3 : stq3 m hS L = some [] := by unfold stq3; rw [s2]; exact k4
  refine ⟨?_, s3, t1'⟩
  unfold stGet
  rw [t1', (hrd (fzL f.fz) f.fz).2 ⟨h1, hr, rfl⟩, s1, s2, k3]
  have q2 : ((numV (some (Oct.putL (u64N f.tim) ++ hashL f.mac)) 1125899906842624 : Nat) : Int) = f.tim := by
    have : numV (some (Oct.putL (u64N f.tim) ++ hashL f.mac)) 1125899906842624 = u64N f.tim := n2
    rw [this, e2]
  rw [q2]
  rfl
theorem stF_eq (f : StR) : stF f = 84 :: (txtL ⟨(fzL f.fz).toArray⟩ ++ (Oct.putL (u64N f.tim) ++ hashL f.mac)) := by
  unfold stF stL
  rw [List.cons_append, List.append_assoc]
theorem fzGetD_length {o : Option FzR} (h : ∀ f, o = some f → f.root.length = 32) : (o.getD fz0).root.length = 32 := by
  cases o with
  | none => exact z32_length
  | some f => exact h f rfl
theorem stRd_iff (s : List UInt8) (f : StR) : stRd s = some f ↔ stB f = true ∧ f.fz.root.length = 32 ∧ f.mac.length = 32 ∧ stF f = s := by
  constructor
  · intro h
    obtain ⟨l, rfl, h1, h2⟩ := readG_some h
    exact ⟨h1, fzGetD_length fun f hf => ((fzRd_iff _ _).1 hf).2.1, hsV_length _, h2⟩
  · rintro ⟨h1, h2, h3, rfl⟩
    rw [stF_eq]
    exact readG_of (st_put 16777216 (by decide) (by decide) fzRd fzRd_iff hsV hsS f h1 (fun D r h => ⟨(hs_put D r h).1, (hs_put D r h).2.1⟩) h2 h3).1 h1 (stF_eq f)
theorem text_inv' {st : Option (List UInt8)} {r : List UInt8} (most : Nat) {M : Int} (hM : M = (most : Int)) (h : textS st M = some r) : ∃ l, st = some l ∧ l = txtL ⟨(textV st M).toArray⟩ ++ r := by
  subst hM
  cases st with
  | none => rw [textS_off] at h; cases h
  | some l => exact ⟨l, rfl, text_inv h⟩
theorem rstRd_iff (s : List UInt8) (f : StR) : rstRd s = some f ↔ stB f = true ∧ f.fz.root.length = 32 ∧ f.mac.length = 32 ∧ stF f = s := by
  constructor
  · intro h
    unfold rstRd at h
    generalize hB : begS 84 s = B at h
    split at h
    · rename_i hc
      injection h with h
      subst h
      obtain ⟨hc, hq⟩ := hc
      obtain ⟨z, hz⟩ := Option.isSome_iff_exists.1 hq
      obtain ⟨z1, z2, z3⟩ := (rfzRd_iff _ _).1 hz
      obtain ⟨l2, e2, h2⟩ := rh_inv' hc
      obtain ⟨l1, e1, h1, b1⟩ := num_inv' (M := 1125899906842624) 1125899906842624 rfl e2
      obtain ⟨l0, e0, h0⟩ := text_inv' (M := 200) 200 rfl e1
      have hg : stGet 200 rfzRd rhV B = ⟨z, numV (stq1 200 B) 1125899906842624, rhV (stq2 200 B)⟩ := by unfold stGet; rw [hz]; rfl
      rw [hg]
      refine ⟨?_, z2, rhV_length _, ?_⟩
      · rw [stB_iff]
        simp only
        have c2 : numV (stq1 200 B) 1125899906842624 ≤ 1125899906842624 := b1
        refine ⟨z1, ?_, ?_⟩ <;> omega
      · rw [stF_eq]
        simp only
        rw [u64N_nn _ (by omega), z3]
        rw [begS_inv (hB.trans e0)]
        clear hB
        rw [h0, h1, h2, List.append_nil]
    · cases h
  · rintro ⟨h1, h2, h3, rfl⟩
    have g := st_put 200 (by decide) (by decide) rfzRd rfzRd_iff rhV rhS f h1 (fun D r h => ⟨(hs_put D r h).2.2.1, (hs_put D r h).2.2.2⟩) h2 h3
    obtain ⟨g1, g2, g3⟩ := g
    unfold rstRd
    rw [stF_eq, begS_of]
    have g1' : stGet 200 rfzRd rhV (some (txtL ⟨(fzL f.fz).toArray⟩ ++ (Oct.putL (u64N f.tim) ++ hashL f.mac))) = f := g1
    have g2' : stq3 200 rhS (some (txtL ⟨(fzL f.fz).toArray⟩ ++ (Oct.putL (u64N f.tim) ++ hashL f.mac))) = some [] := g2
    have g3' : textV (some (txtL ⟨(fzL f.fz).toArray⟩ ++ (Oct.putL (u64N f.tim) ++ hashL f.mac))) 200 = fzL f.fz := g3
    rw [g1', g2', g3', (rfzRd_iff (fzL f.fz) f.fz).2 ⟨((stB_iff f).1 h1).1, h2, rfl⟩]
    exact if_pos ⟨rfl, rfl⟩
theorem st_same (s : List UInt8) : rstRd s = stRd s := opt_same fun v => (rstRd_iff s v).trans (stRd_iff s v).symm
end Go.Proofs.YtollcdalokhjaaaDoor
/-! ## Package seal: freezes, heads and stones in memory; how they are read, written, built and compared. -/
namespace Go.Proofs.YtollcdalokhjaaaDoor
open Go.RowKit

/-- Block p holds these cells. -/
def Blk (p : Nat) (T : TypeId) (cs : List Value) (w : World) : Prop := w.heap[p]? = some (.cells cs.toArray T (0, 0))
section
variable {p : Nat} {T : TypeId} {cs : List Value} {w w' : World}
theorem Blk.lt (h : Blk p T cs w) : p < w.heap.size := (Array.getElem?_eq_some_iff.1 h).1
theorem Blk.old {B : Nat} (h : Blk p T cs w) (k : Below B w w') (hp : p < B) : Blk p T cs w' := (k.block p hp).trans h
theorem Blk.kept {b : Nat} (h : Blk p T cs w) (k : Only b w w') (hp : p ≠ b) : Blk p T cs w' := (k.block p h.lt hp).trans h
theorem Blk.drew (h : Blk p T cs w) : Blk p T cs w.drew := h
theorem Blk.alloc (w : World) (T : TypeId) (cs : List Value) : Blk w.heap.size T cs (w.alloc (.cells cs.toArray T)) := heap_alloc_last w _
theorem Blk.fz (h : Blk p T cs w) (i : Nat) : w.frozen? ⟨p, i, none⟩ = false := fz_of h i
theorem Blk.cell (h : Blk p T cs w) (i : Nat) : w.cell? ⟨p, i, none⟩ = cs[i]? := by rw [cell_of h]; simp
theorem Blk.range {a m z : List Value} (h : Blk p T (a ++ (m ++ z)) w) : w.rangeAt p a.length m := fun j v hv => by
  have hj : j < m.length := (List.getElem?_eq_some_iff.1 hv).1
  rw [h.cell, List.getElem?_append_right (by omega), show a.length + j - a.length = j by omega, List.getElem?_append_left hj]
  exact hv
theorem Blk.all (h : Blk p T cs w) : w.rangeAt p 0 cs := fun j v hv => by rw [h.cell, Nat.zero_add]; exact hv
theorem Blk.sets {a m z n : List Value} (h : Blk p T (a ++ (m ++ z)) w) (hl : n.length = m.length) : Blk p T (a ++ (n ++ z)) (w.setCells p a.length n) := by
  unfold Blk
  rw [heap_setCells p T n a.length (a ++ (m ++ z)) w (by simp only [List.length_append]; omega) h]
  congr 3
  rw [List.take_left]
  congr 2
  rw [hl, ← List.append_assoc, ← List.length_append, List.drop_left]
theorem Blk.put {a z : List Value} {x : Value} (h : Blk p T (a ++ (x :: z)) w) (y : Value) : Blk p T (a ++ (y :: z)) (w.setCell ⟨p, a.length, none⟩ y) := by
  have := heap_set (i := a.length) h y
  unfold Blk
  rw [this]
  congr 2
  simp
theorem Blk.setAll {n : List Value} (h : Blk p T cs w) (hl : n.length = cs.length) : Blk p T n (w.setCells p 0 n) := by
  have := Blk.sets (a := []) (m := cs) (z := []) (n := n) (by simpa using h) hl
  simpa using this
theorem Blk.there (h : Blk p T cs w) {o n : Nat} (hn : o + n ≤ cs.length) : w.there p o n := there_of h hn
end
def FzAt (p : Nat) (f : FzR) (w : World) : Prop := Blk p 44 (fzCs f) w
def StAt (p : Nat) (f : StR) (w : World) : Prop := Blk p 49 (stCs f) w
theorem info_fz : (Tryd.prog.info? 44).map (fun i => (i.zero, i.size)) = some (some (.agg (fzCs fz0).toArray), 34) := by kernel_rfl
theorem info_st : (Tryd.prog.info? 49).map (fun i => (i.zero, i.size)) = some (some (.agg (stCs st0).toArray), 67) := by kernel_rfl
theorem size_of {t : TypeId} {z : Option Value} {n : Nat} (h : (Tryd.prog.info? t).map (fun i => (i.zero, i.size)) = some (z, n)) : (Tryd.prog.info? t).map (·.size) = some n := by
  cases e : Tryd.prog.info? t with
  | none => rw [e] at h; cases h
  | some i => rw [e] at h; simp at h ⊢; exact h.2
/-! ### Addresses of fields -/
theorem fld_fz (b o : Nat) (w : World) : (Instr.fieldAt 44 (.pointer (some ⟨b, o, none⟩)) 0).run Tryd.prog w = .ok (.pointer (some ⟨b, o, none⟩)) w ∧ (Instr.fieldAt 44 (.pointer (some ⟨b, o, none⟩)) 1).run Tryd.prog w = .ok (.pointer (some ⟨b, o + 1, none⟩)) w ∧
    (Instr.fieldAt 44 (.pointer (some ⟨b, o, none⟩)) 2).run Tryd.prog w = .ok (.pointer (some ⟨b, o + 2, none⟩)) w := by
  refine ⟨?_, ?_, ?_⟩ <;> go_simp
theorem fld_st (b o : Nat) (w : World) : (Instr.fieldAt 49 (.pointer (some ⟨b, o, none⟩)) 0).run Tryd.prog w = .ok (.pointer (some ⟨b, o, none⟩)) w ∧ (Instr.fieldAt 49 (.pointer (some ⟨b, o, none⟩)) 1).run Tryd.prog w = .ok (.pointer (some ⟨b, o + 34, none⟩)) w ∧
    (Instr.fieldAt 49 (.pointer (some ⟨b, o, none⟩)) 2).run Tryd.prog w = .ok (.pointer (some ⟨b, o + 35, none⟩)) w := by
  refine ⟨?_, ?_, ?_⟩ <;> go_simp
theorem fld_fz0 (b : Nat) (w : World) : (Instr.fieldAt 44 (.pointer (some ⟨b, 0, none⟩)) 0).run Tryd.prog w = .ok (.pointer (some ⟨b, 0, none⟩)) w ∧ (Instr.fieldAt 44 (.pointer (some ⟨b, 0, none⟩)) 1).run Tryd.prog w = .ok (.pointer (some ⟨b, 1, none⟩)) w ∧
    (Instr.fieldAt 44 (.pointer (some ⟨b, 0, none⟩)) 2).run Tryd.prog w = .ok (.pointer (some ⟨b, 2, none⟩)) w := by
  refine ⟨?_, ?_, ?_⟩ <;> go_simp
theorem fld_st0 (b : Nat) (w : World) : (Instr.fieldAt 49 (.pointer (some ⟨b, 0, none⟩)) 0).run Tryd.prog w = .ok (.pointer (some ⟨b, 0, none⟩)) w ∧ (Instr.fieldAt 49 (.pointer (some ⟨b, 0, none⟩)) 1).run Tryd.prog w = .ok (.pointer (some ⟨b, 34, none⟩)) w ∧
    (Instr.fieldAt 49 (.pointer (some ⟨b, 0, none⟩)) 2).run Tryd.prog w = .ok (.pointer (some ⟨b, 35, none⟩)) w := by
  refine ⟨?_, ?_, ?_⟩ <;> go_simp
/-! ### Reading -/
section
variable {p : Nat} {f : FzR} {h : HdR} {t : StR} {w : World}
theorem FzAt.win (k : FzAt p f w) : w.cell? ⟨p, 0, none⟩ = some (.int .i64 f.win) := (Blk.cell k 0).trans rfl
theorem FzAt.cnt (k : FzAt p f w) : w.cell? ⟨p, 1, none⟩ = some (.int .i64 f.cnt) := (Blk.cell k 1).trans rfl
theorem FzAt.root (k : FzAt p f w) : w.rangeAt p 2 (f.root.map u8V) := Blk.range (a := [.int .i64 f.win, .int .i64 f.cnt]) (z := []) (by rw [List.append_nil]; exact k)
theorem StAt.fz (k : StAt p t w) : w.rangeAt p 0 (fzCs t.fz) := Blk.range (a := []) k
theorem StAt.tim (k : StAt p t w) (hr : t.fz.root.length = 32) : w.cell? ⟨p, 34, none⟩ = some (.int .i64 t.tim) := by
  have := Blk.range (a := fzCs t.fz) (m := [.int .i64 t.tim]) (z := t.mac.map u8V) k 0 _ rfl
  simpa [fzCs_length hr] using this
theorem StAt.mac (k : StAt p t w) (hr : t.fz.root.length = 32) : w.rangeAt p 35 (t.mac.map u8V) := by
  have := Blk.range (a := fzCs t.fz ++ [.int .i64 t.tim]) (m := t.mac.map u8V) (z := []) (p := p) (T := 49) (w := w) (by rw [List.append_nil, List.append_assoc]; exact k)
  simpa [fzCs_length hr] using this
end
theorem load_sumAt {b o : Nat} {D : List UInt8} {w : World} (h : w.rangeAt b o (D.map u8V)) (hl : D.length = 32) : (Instr.loadAt 33 (.pointer (some ⟨b, o, none⟩))).run Tryd.prog w = .ok (sumV D) w :=
  run_loadAt_mid w b o 33 _ _ h Tryd.underlying33 rfl (sum_info' hl)
theorem load_fzAt {b o : Nat} {f : FzR} {w : World} (h : w.rangeAt b o (fzCs f)) (hl : f.root.length = 32) : (Instr.loadAt 44 (.pointer (some ⟨b, o, none⟩))).run Tryd.prog w = .ok (fzV f) w :=
  run_loadAt_mid w b o 44 _ _ h Tryd.underlying44 rfl (by rw [fzCs_length hl]; exact size_of info_fz)
theorem load_stAt {b o : Nat} {f : StR} {w : World} (h : w.rangeAt b o (stCs f)) (hl : f.fz.root.length = 32) (hm : f.mac.length = 32) : (Instr.loadAt 49 (.pointer (some ⟨b, o, none⟩))).run Tryd.prog w = .ok (stV f) w :=
  run_loadAt_mid w b o 49 _ _ h Tryd.underlying49 rfl (by rw [stCs_length hl hm]; exact size_of info_st)
theorem load_intS {b o : Nat} {x : Int} {w : World} (h0 : w.cell? ⟨b, o, none⟩ = some (.int .i64 x)) : (Instr.loadAt 3 (.pointer (some ⟨b, o, none⟩))).run Tryd.prog w = .ok (.int .i64 x) w := by go_simp
/-! ### Writing -/
theorem one_cells {f : FzR} : (fzCs f).toArray.all (·.oneCell') = true := all_oneCell_toArray (fun x hx => by
  simp only [fzCs, List.mem_append, List.mem_cons, List.not_mem_nil, or_false, List.mem_map] at hx
  rcases hx with (rfl | rfl) | ⟨_, _, rfl⟩ <;> rfl)
theorem one_hd {f : HdR} : (hdCs f).toArray.all (·.oneCell') = true := all_oneCell_toArray (fun x hx => by
  simp only [hdCs, List.mem_append, List.mem_cons, List.not_mem_nil, or_false, List.mem_map] at hx
  rcases hx with rfl | ⟨_, _, rfl⟩ | rfl | ⟨_, _, rfl⟩ <;> rfl)
theorem one_st {f : StR} : (stCs f).toArray.all (·.oneCell') = true := all_oneCell_toArray (fun x hx => by
  simp only [stCs, fzCs, List.mem_append, List.mem_cons, List.not_mem_nil, or_false, List.mem_map] at hx
  rcases hx with ((rfl | rfl) | ⟨_, _, rfl⟩) | rfl | ⟨_, _, rfl⟩ <;> rfl)
theorem store_intS {b o : Nat} {x : Int} {v : Value} {w : World} (c : w.cell? ⟨b, o, none⟩ = some v) (f : w.frozen? ⟨b, o, none⟩ = false) : (Instr.storeAt 3 (.pointer (some ⟨b, o, none⟩)) (.int .i64 x)).run Tryd.prog w = .ok () (w.setCell ⟨b, o, none⟩ (.int .i64 x)) := by go_simp
theorem store_sumS {b o : Nat} {D : List UInt8} {w : World} (h : w.there b o 32) (hl : D.length = 32) : (Instr.storeAt 33 (.pointer (some ⟨b, o, none⟩)) (sumV D)).run Tryd.prog w = .ok () (w.setCells b o (D.map u8V)) :=
  run_storeAt_mid w b o 33 (D.map u8V).toArray (by rw [List.size_toArray, List.length_map, hl]; exact h) (sum_info hl) (sum_one D)
theorem store_fzS {b o : Nat} {f : FzR} {w : World} (h : w.there b o 34) (hl : f.root.length = 32) : (Instr.storeAt 44 (.pointer (some ⟨b, o, none⟩)) (fzV f)).run Tryd.prog w = .ok () (w.setCells b o (fzCs f)) :=
  run_storeAt_mid w b o 44 (fzCs f).toArray (by rw [List.size_toArray, fzCs_length hl]; exact h) (by rw [List.size_toArray, fzCs_length hl]; exact size_of info_fz) one_cells
theorem store_stS {b o : Nat} {f : StR} {w : World} (h : w.there b o 67) (hl : f.fz.root.length = 32) (hm : f.mac.length = 32) : (Instr.storeAt 49 (.pointer (some ⟨b, o, none⟩)) (stV f)).run Tryd.prog w = .ok () (w.setCells b o (stCs f)) :=
  run_storeAt_mid w b o 49 (stCs f).toArray (by rw [List.size_toArray, stCs_length hl hm]; exact h) (by rw [List.size_toArray, stCs_length hl hm]; exact size_of info_st) one_st
section
variable {p : Nat} {f : FzR} {h : HdR} {t : StR} {w : World}
theorem FzAt.setWin (k : FzAt p f w) (z : Int) : FzAt p ⟨z, f.cnt, f.root⟩ (w.setCell ⟨p, 0, none⟩ (.int .i64 z)) := Blk.put (a := []) (z := .int .i64 f.cnt :: f.root.map u8V) k (.int .i64 z)
theorem FzAt.setCnt (k : FzAt p f w) (z : Int) : FzAt p ⟨f.win, z, f.root⟩ (w.setCell ⟨p, 1, none⟩ (.int .i64 z)) := Blk.put (a := [.int .i64 f.win]) (z := f.root.map u8V) k (.int .i64 z)
theorem FzAt.setRoot (k : FzAt p f w) (D : List UInt8) (hl : D.length = f.root.length) : FzAt p ⟨f.win, f.cnt, D⟩ (w.setCells p 2 (D.map u8V)) := by
  have := Blk.sets (a := [.int .i64 f.win, .int .i64 f.cnt]) (m := f.root.map u8V) (z := []) (n := D.map u8V) (by rw [List.append_nil]; exact k) (by rw [List.length_map, List.length_map, hl])
  rw [List.append_nil] at this
  exact this
theorem StAt.setFz (k : StAt p t w) (g : FzR) (hr : t.fz.root.length = 32) (hg : g.root.length = 32) : StAt p ⟨g, t.tim, t.mac⟩ (w.setCells p 0 (fzCs g)) :=
  Blk.sets (a := []) (m := fzCs t.fz) (z := ([.int .i64 t.tim] : List Value) ++ t.mac.map u8V) (n := fzCs g) k (by rw [fzCs_length hr, fzCs_length hg])
theorem StAt.setTim (k : StAt p t w) (hr : t.fz.root.length = 32) (z : Int) : StAt p ⟨t.fz, z, t.mac⟩ (w.setCell ⟨p, 34, none⟩ (.int .i64 z)) := by
  have := Blk.put (a := fzCs t.fz) (z := t.mac.map u8V) (x := .int .i64 t.tim) (p := p) (T := 49) (w := w) k (.int .i64 z)
  rw [fzCs_length hr] at this
  exact this
theorem StAt.setMac (k : StAt p t w) (hr : t.fz.root.length = 32) (D : List UInt8) (hl : D.length = t.mac.length) : StAt p ⟨t.fz, t.tim, D⟩ (w.setCells p 35 (D.map u8V)) := by
  have := Blk.sets (a := fzCs t.fz ++ [.int .i64 t.tim]) (m := t.mac.map u8V) (z := []) (n := D.map u8V) (p := p) (T := 49) (w := w) (by rw [List.append_nil, List.append_assoc]; exact k) (by rw [List.length_map, List.length_map, hl])
  rw [List.append_nil, List.append_assoc, show (fzCs t.fz ++ [Value.int .i64 t.tim]).length = 35 by simp [fzCs_length hr]] at this
  exact this
theorem FzAt.len (hr : f.root.length = 32) : (fzCs f).length = 34 := fzCs_length hr
end
/-! ### Building -/
theorem part_one (i off : Nat) (x : Value) (place : Nat → Option (Nat × Nat)) (l : List Value) (rest : List (Nat × Value)) (hx : x.cells = #[x]) (hp : place i = some (off, 1)) (h : off < l.length) :
    Instr.fill place l.toArray ((i, x) :: rest) = Instr.fill place (l.set off x).toArray rest := by
  rw [Instr.fill, hp]
  have e : ¬ (l.length < off + 1) := by omega
  simp [hx, e]
end Go.Proofs.YtollcdalokhjaaaDoor
