/-
  Several texts in one (RedNumb, RedRead, RedRFirst, RedSlot, RedTxn, RedScan, RedRegn).
-/
import Derived.Test.YtfcocbgdmmeikaaGreatDoorMRedA
import Derived.Test.YtfcocbgdmmeikaaGreatDoorMRedB
import Derived.Test.YtfcocbgdmmeikaaGreatDoorMGen
import Derived.BigQuiet
import Derived.Deep.QuietTactic
/-! ## Package redo: what is read of a sector as a line. -/
namespace Go.Proofs.YtfcocbgdmmeikaaGreatDoor
open Go.RowKit Dsk

/-- Does s begin with p? -/
def preB (s p : ByteArray) : Bool := decide (p.size ≤ s.size) && decide (s.extract 0 p.size = p)
theorem hasPrefix_any (s p : ByteArray) (w : World) (_hs : s.size ≤ 1000000) (_hp : p.size ≤ 1000000) :
    Calls Tryz.prog 121 #[.string s, .string p] w fun e w' => e = .returned (.bool (preB s p)) ∧ w = w' := by
  unfold preB
  by_cases h : p.size ≤ s.size
  · have h' : ¬ (s.size : Int) < (p.size : Int) := by omega
    rw [decide_eq_true h, Bool.true_and]
    by_cases he : s.extract 0 p.size = p
    · rw [decide_eq_true he]
      go_enter Tryz.func121, Tryz.ntmps121
      go_wp2
      go_ret
      exact ⟨rfl, rfl⟩
    · rw [decide_eq_false he]
      have hbf : ((s.extract 0 p.size).toList == p.toList) = false := by
        have h1 := eql_str (s.extract 0 p.size) p w
        rw [decide_eq_false he] at h1
        have h2 : (binOp .eql 9 (.string (s.extract 0 p.size)) (.string p)).run Tryz.prog w = .ok (.bool ((s.extract 0 p.size).toList == p.toList)) w := by go_simp
        rw [h2] at h1
        injection h1 with h1 _
        injection h1
      go_enter Tryz.func121, Tryz.ntmps121
      go_wp2
      go_ret
      exact ⟨rfl, rfl⟩
  · have h' : (s.size : Int) < (p.size : Int) := by omega
    rw [decide_eq_false h, Bool.false_and]
    go_enter Tryz.func121, Tryz.ntmps121
    go_wp2
    go_ret
    exact ⟨rfl, rfl⟩
theorem cutPrefix_any (s p : ByteArray) (w : World) (hs : s.size ≤ 1000000) (hp : p.size ≤ 1000000) :
    Calls Tryz.prog 119 #[.string s, .string p] w fun e w' => e = .returned (.tuple #[.string (if preB s p then s.extract p.size s.size else s), .bool (preB s p)]) ∧ w = w' := by
  have hh := hasPrefix_any s p w hs hp
  cases hb : preB s p with
  | true =>
    rw [hb] at hh
    have hle : p.size ≤ s.size := by
      unfold preB at hb
      simp only [Bool.and_eq_true, decide_eq_true_eq] at hb
      exact hb.1
    have hle' : (p.size : Int) ≤ (s.size : Int) := by omega
    rw [if_pos rfl]
    clear hb
    go_enter Tryz.func119, Tryz.ntmps119
    go_wp2_with (go_at_call 121; refine hh.mono ?_; rintro e w1 ⟨rfl, rfl⟩)
    go_ret2
    exact ⟨rfl, rfl⟩
  | false =>
    rw [hb] at hh
    rw [if_neg Bool.false_ne_true]
    clear hb
    go_enter Tryz.func119, Tryz.ntmps119
    go_wp2_with (go_at_call 121; refine hh.mono ?_; rintro e w1 ⟨rfl, rfl⟩)
    go_ret2
    exact ⟨rfl, rfl⟩
theorem cutS_any (s p : ByteArray) (w : World) (hs : s.size ≤ 1000000) (hp : p.size ≤ 1000000) :
    Calls Tryz.prog 99 #[.string s, .string p] w fun e w' => e = .returned (.tuple #[.string (if preB s p then s.extract p.size s.size else s), .bool (preB s p)]) ∧ w = w' := by
  have hh := cutPrefix_any s p w hs hp
  generalize (if preB s p then s.extract p.size s.size else s) = R at *
  generalize preB s p = B at *
  go_enter Tryz.func99, Tryz.ntmps99
  go_wp2_with (go_at_call 119; refine hh.mono ?_; rintro e w1 ⟨rfl, rfl⟩)
  go_ret2
  exact ⟨rfl, rfl⟩
end Go.Proofs.YtfcocbgdmmeikaaGreatDoor
/-! ## Package redo: what is read of a sector: numbersOf, readHead, readFirst. -/
namespace Go.Proofs.YtfcocbgdmmeikaaGreatDoor
open Go.RowKit Dsk

theorem bytes_eta (T : ByteArray) : T = ⟨T.data.toList.toArray⟩ := by rfl
theorem preB_list (T : ByteArray) (mark : List UInt8) : preB T ⟨mark.toArray⟩ = decide (T.data.toList.take mark.length = mark) := by
  unfold preB
  have hm : (⟨mark.toArray⟩ : ByteArray).size = mark.length := bytes_size mark
  have hT := Lib.size_eq T
  have he : T.extract 0 mark.length = ⟨(T.data.toList.take mark.length).toArray⟩ := by
    conv => lhs; rw [bytes_eta T]
    exact take_rest T.data.toList mark.length
  rw [hm, he]
  by_cases h : T.data.toList.take mark.length = mark
  · rw [decide_eq_true h]
    have hl := congrArg List.length h
    rw [List.length_take] at hl
    rw [h, decide_eq_true rfl, decide_eq_true (by omega)]
    rfl
  · rw [decide_eq_false h, decide_eq_false (p := (⟨(T.data.toList.take mark.length).toArray⟩ : ByteArray) = ⟨mark.toArray⟩) (fun e => h (by
      have := congrArg (fun b : ByteArray => b.data.toList) e
      simpa using this)), Bool.and_false]
theorem openS_le (s : ByteArray) : (openS s).size ≤ 256 := by
  cases h : openB s with
  | false => unfold openS; rw [h, if_neg Bool.false_ne_true]; decide
  | true =>
    have h1 := (open_size s h).2.1
    unfold fillE at h1
    split at h1
    · exact fits_small _ ‹_›
    · cases h1
theorem copenB_le (T : ByteArray) : (copenB T).size ≤ T.size := by
  unfold copenB
  split
  · rw [ByteArray.size_extract]; omega
  · exact Nat.zero_le _
set_option maxHeartbeats 800000 in
theorem numbers_any (s : ByteArray) (mark : List UInt8) (hmk : mark.length ≤ 10) (w : World) (hT : TW w) (hs : s.size ≤ 1000000) :
    Calls Tryz.prog 71 #[.string s, .string ⟨mark.toArray⟩] w fun e w' => ∃ v, e = .returned v ∧ ScP v (textOf s mark) w' ∧ Below w.heap.size w w' ∧ ∀ b, v = .pointer (some ⟨b, 0, none⟩) → w.heap.size ≤ b := by
  have ho := open_any s w hs
  have hle := openS_le s
  obtain ⟨O, hO⟩ : ∃ O, O = openS s := ⟨_, rfl⟩
  have hco := fun u h => copen_any O u h (by rw [hO]; omega)
  have hcl := copenB_le O
  have htx : textOf s mark = if preB (copenB O) ⟨mark.toArray⟩ = true then some ((copenB O).data.toList.drop mark.length) else none := by
    unfold textOf
    rw [preB_list, ← hO]
    by_cases h : (copenB O).data.toList.take mark.length = mark
    · rw [if_pos h, if_pos (decide_eq_true h)]
    · rw [if_neg h, if_neg (by rw [decide_eq_false h]; decide)]
  rw [htx]
  rw [← hO] at ho hle
  clear hO htx
  generalize copenB O = T at *
  have hms : (⟨mark.toArray⟩ : ByteArray).size = mark.length := bytes_size mark
  have hcu := fun u => cutS_any T ⟨mark.toArray⟩ u (by omega) (by omega)
  have hdr : T.extract mark.length T.size = ⟨(T.data.toList.drop mark.length).toArray⟩ := by
    have := drop_rest T.data.toList mark.length
    rw [rest_size] at this
    conv => lhs; rw [bytes_eta T]
    rw [show (⟨T.data.toList.toArray⟩ : ByteArray).size = T.data.toList.length from bytes_size _]
    exact this
  rw [hms, hdr] at hcu
  have hrl : (T.data.toList.drop mark.length).length ≤ maxLen := by rw [List.length_drop, ← Lib.size_eq]; unfold maxLen; omega
  generalize T.data.toList.drop mark.length = R at *
  generalize (⟨mark.toArray⟩ : ByteArray) = M at *
  have hre := fun u => read_any R u hrl
  generalize sealed O = B2 at *
  generalize openB s = B1 at *
  cases hp : preB T M with
  | true =>
    rw [hp, if_pos rfl] at hcu
    rw [if_pos rfl]
    clear hp hdr hms
    go_enter Tryz.func71, Tryz.ntmps71
    go_wp2_with (first
      | (go_at_call 97; refine ho.mono ?_; rintro e w1 ⟨rfl, b1⟩; have t1 := hT.old b1)
      | (go_at_call 98; refine (hco _ t1).mono ?_; rintro e w2 ⟨rfl, b2⟩)
      | (go_at_call 99; refine (hcu _).mono ?_; rintro e w3 ⟨rfl, rfl⟩)
      | (go_at_call 100; refine (hre _).mono ?_; rintro e w4 ⟨rfl, h4, b4⟩))
    go_ret
    have bb := below_step b1 (Nat.le_refl _) b2
    refine ⟨_, rfl, .inr ⟨_, rfl, h4⟩, below_step bb (Nat.le_refl _) b4, fun b e => ?_⟩
    have hsz := bb.size
    simp at e
    omega
  | false =>
    rw [hp, if_neg Bool.false_ne_true] at hcu
    rw [if_neg Bool.false_ne_true]
    clear hp hdr hms
    go_enter Tryz.func71, Tryz.ntmps71
    go_wp2_with (first
      | (go_at_call 97; refine ho.mono ?_; rintro e w1 ⟨rfl, b1⟩; have t1 := hT.old b1)
      | (go_at_call 98; refine (hco _ t1).mono ?_; rintro e w2 ⟨rfl, b2⟩)
      | (go_at_call 99; refine (hcu _).mono ?_; rintro e w3 ⟨rfl, rfl⟩))
    go_ret
    exact ⟨_, rfl, .inl ⟨rfl, rfl⟩, below_step b1 (Nat.le_refl _) b2, fun b e => by simp at e⟩
/-- A scanner above B is turned: what lies below stays. -/
theorem scp_below {B : Nat} {v : Value} {u w w' : World} (h : Below B u w) (hf : Fr (isP v) w w') (hB : B ≤ w.heap.size) (hv : ∀ b, v = .pointer (some ⟨b, 0, none⟩) → B ≤ b) : Below B u w' :=
  h.trans (hf.below hB fun k hk e => by have := hv k e; omega)
theorem readHead_any (x : ByteArray) (m : Nat) (w : World) (hT : TW w) (hs : x.size ≤ 1000000) (h1 : 1 ≤ m) (hm : m ≤ 1000000) :
    Calls Tryz.prog 39 #[.string x, .int .i64 (m : Int)] w fun e w' => e = .returned (.tuple #[.int .i64 (hP x m : Nat), .int .i64 (hS x m : Nat), .bool (hOk x m)]) ∧ Below w.heap.size w w' := by
  have hn := numbers_any x [83, 67, 72] (by decide) w hT hs
  have hk : hOk x m = (decide (endV (hE x m) = 0) && decide (1 ≤ hS x m)) := rfl
  rw [hk]
  obtain ⟨st, hst⟩ : ∃ st, st = textOf x [83, 67, 72] := ⟨_, rfl⟩
  unfold hP hS hE
  rw [← hst] at hn ⊢
  have em : ((m - 1 : Nat) : Int) = (m : Int) - 1 := by omega
  rw [em]
  clear hst hk
  obtain ⟨z, hz⟩ : ∃ z : Int, z = (m : Int) - 1 := ⟨_, rfl⟩
  rw [← hz]
  have n1 := fun v u (h : ScP v st u) => nump_any v st z u h (by omega) (by omega)
  generalize hst1 : numS st z = st1 at *
  have n2 := fun v u (h : ScP v st1 u) => nump_any v st1 549755813888 u h (by decide) (by decide)
  rw [show ((549755813888 : Nat) : Int) = 549755813888 from rfl]
  generalize hst2 : numS st1 549755813888 = st2 at *
  have n3 := fun v u (h : ScP v st2 u) => endp_any v st2 u h
  generalize numV st z = A at *
  generalize numV st1 549755813888 = C at *
  have HZ := Lib.hid hz
  rw [hz] at n1
  clear hst1 hst2 hz em
  cases he : decide (endV st2 = 0) with
  | true =>
    have he0 : endV st2 = 0 := of_decide_eq_true he
    rw [he0] at n3
    rw [Bool.true_and]
    clear he he0
    by_cases hc : 1 ≤ C
    · have hc' : (1 : Int) ≤ (C : Int) := by omega
      rw [decide_eq_true hc]
      go_enter Tryz.func39, Tryz.ntmps39
      go_upto_region 2 with (go_at_call 71; refine hn.mono ?_; rintro e w1 ⟨v, rfl, s1, b1, g1⟩)
      go_upto_region 3 with (first
        | (go_at_call 72; with_reducible refine (n1 _ _ s1).mono ?_; rintro e w2 ⟨rfl, s2, f2⟩)
        | (go_at_call 72; with_reducible refine (n2 _ _ s2).mono ?_; rintro e w3 ⟨rfl, s3, f3⟩))
      go_wp2_with (go_at_call 73; refine (n3 _ _ s3).mono ?_; rintro e w4 ⟨rfl, rfl⟩)
      go_ret3
      have q2 := scp_below b1 f2 b1.size g1
      exact ⟨rfl, scp_below q2 f3 q2.size g1⟩
    · have hc' : ¬ (1 : Int) ≤ (C : Int) := by omega
      have hd : decide ((1 : Int) ≤ (C : Int)) = false := decide_eq_false hc'
      rw [decide_eq_false hc]
      go_enter Tryz.func39, Tryz.ntmps39
      go_upto_region 2 with (go_at_call 71; refine hn.mono ?_; rintro e w1 ⟨v, rfl, s1, b1, g1⟩)
      go_upto_region 3 with (first
        | (go_at_call 72; with_reducible refine (n1 _ _ s1).mono ?_; rintro e w2 ⟨rfl, s2, f2⟩)
        | (go_at_call 72; with_reducible refine (n2 _ _ s2).mono ?_; rintro e w3 ⟨rfl, s3, f3⟩))
      go_wp2_with (go_at_call 73; refine (n3 _ _ s3).mono ?_; rintro e w4 ⟨rfl, rfl⟩)
      go_ret3
      have q2 := scp_below b1 f2 b1.size g1
      exact ⟨rfl, scp_below q2 f3 q2.size g1⟩
  | false =>
    have he0 : ¬ endV st2 = 0 := of_decide_eq_false he
    rw [Bool.false_and]
    clear he
    generalize endV st2 = E at *
    go_enter Tryz.func39, Tryz.ntmps39
    go_upto_region 2 with (go_at_call 71; refine hn.mono ?_; rintro e w1 ⟨v, rfl, s1, b1, g1⟩)
    go_upto_region 3 with (first
      | (go_at_call 72; with_reducible refine (n1 _ _ s1).mono ?_; rintro e w2 ⟨rfl, s2, f2⟩)
      | (go_at_call 72; with_reducible refine (n2 _ _ s2).mono ?_; rintro e w3 ⟨rfl, s3, f3⟩))
    go_wp2_with (go_at_call 73; refine (n3 _ _ s3).mono ?_; rintro e w4 ⟨rfl, rfl⟩)
    go_ret3
    have q2 := scp_below b1 f2 b1.size g1
    exact ⟨rfl, scp_below q2 f3 q2.size g1⟩
end Go.Proofs.YtfcocbgdmmeikaaGreatDoor
/-! ## Package redo: a first line is read. -/
namespace Go.Proofs.YtfcocbgdmmeikaaGreatDoor
open Go.RowKit Dsk

theorem Scn.type {b : Nat} {st : Option (List UInt8)} {w : World} (h : Scn b st w) : ∃ C, w.heap[b]? = some (.cells C 138 (0, 0)) := ⟨_, h.2⟩
theorem OwnI.type {v : Value} {l : List Int} {w : World} (h : OwnI v l w) {k : Nat} (e : v.ownBlock = some k) : ∃ C, w.heap[k]? = some (.cells C 3 (0, 0)) := by
  rcases h.2 with ⟨rfl, _⟩ | ⟨g, cap, cur, rfl, _, hg, _⟩
  · simp [Value.ownBlock] at e
  · simp [Value.ownBlock] at e; subst e; exact ⟨_, hg⟩
/-- A scanner is turned: a row of numbers stays. -/
theorem OwnI.scan {v sv : Value} {l : List Int} {st : Option (List UInt8)} {w w' : World} (h : OwnI v l w) (hs : ScP sv st w) (hf : Fr (isP sv) w w') : OwnI v l w' := by
  refine h.kept fun k e => hf.block k (h.lt e) fun ep => ?_
  obtain ⟨C, hC⟩ := h.type e
  rcases hs with ⟨rfl, _⟩ | ⟨b, rfl, hb⟩
  · unfold isP at ep; cases ep
  · unfold isP at ep
    injection ep with ep
    injection ep with ep
    injection ep with ep
    subst ep
    obtain ⟨D, hD⟩ := hb.type
    rw [hC] at hD
    simp at hD
theorem ScP.kept {sv : Value} {st : Option (List UInt8)} {w w' : World} (h : ScP sv st w) (hk : ∀ (b : Nat) (C : Array Value), w.heap[b]? = some (Obj.cells C 138 (0, 0)) → w'.heap[b]? = w.heap[b]?) : ScP sv st w' := by
  rcases h with h | ⟨b, e, h⟩
  · exact .inl h
  · exact .inr ⟨b, e, h.1, (hk b _ h.2).trans h.2⟩
theorem ScP.old {sv : Value} {st : Option (List UInt8)} {w w' : World} (h : ScP sv st w) (hb : Below w.heap.size w w') : ScP sv st w' := h.kept fun b _C e => hb.block b (Array.getElem?_eq_some_iff.1 e).1
theorem ScP.grown {sv v : Value} {l : List Int} {st : Option (List UInt8)} {w w' : World} (h : ScP sv st w) (hO : OwnI v l w) (hg : w.grownBy w' v.ownBlock) : ScP sv st w' := h.kept fun b C e => hg.block b (Array.getElem?_eq_some_iff.1 e).1 fun e2 => by
  obtain ⟨D, hD⟩ := hO.type e2.symm
  rw [e] at hD
  simp at hD
set_option maxHeartbeats 3200000 in
set_option maxRecDepth 100000 in
theorem readFirst_any (x : ByteArray) (s : Nat) (w : World) (hT : TW w) (hs : x.size ≤ 1000000) (hq : s ≤ 9223372036854775807) :
    Calls Tryz.prog 75 #[.string x, .int .i64 (s : Int)] w fun e w' => ∃ v, e = .returned (.tuple #[v, .bool (fOk x s)]) ∧ OwnI v ((fAt x).map Int.ofNat) w' ∧ Below w.heap.size w w' ∧ ∀ k, v.ownBlock = some k → w.heap.size ≤ k := by
  have hn := numbers_any x [83, 67, 68] (by decide) w hT hs
  have hn60 := fN_le x
  have hf0 : numV (textOf x [83, 67, 68]) 1099511627776 = fFound x := rfl
  have hf1 : numS (textOf x [83, 67, 68]) 1099511627776 = f1 x := rfl
  have hf2 : numV (f1 x) 60 = fN x := rfl
  have hf3 : numS (f1 x) 60 = f2 x := rfl
  have hfa : fAt x = nmK (f2 x) (65535 : Nat) (fN x) := rfl
  have hok : fOk x s = (decide (endV (afK (f2 x) (65535 : Nat) (fN x)) = 0) && decide (fFound x = s) && decide (1 ≤ fN x)) := rfl
  rw [hfa, hok]
  clear hfa hok
  obtain ⟨B, hB⟩ : ∃ B, B = (decide (endV (afK (f2 x) (65535 : Nat) (fN x)) = 0) && decide (fFound x = s) && decide (1 ≤ fN x)) := ⟨_, rfl⟩
  rw [← hB]
  generalize textOf x [83, 67, 68] = st0 at *
  have n1 := fun v u (h : ScP v st0 u) => nump_any v st0 1099511627776 u h (by decide) (by decide)
  rw [hf0, hf1] at n1
  clear hf0 hf1
  generalize fFound x = A at *
  generalize f1 x = st1 at *
  have n2 := fun v u (h : ScP v st1 u) => nump_any v st1 60 u h (by decide) (by decide)
  rw [hf2, hf3] at n2
  clear hf2 hf3
  generalize fN x = n at *
  generalize f2 x = st2 at *
  have n3 := fun k v u (h : ScP v (afK st2 (65535 : Nat) k) u) => nump_any v (afK st2 (65535 : Nat) k) 65535 u h (by decide) (by decide)
  have n4 := fun v u (h : ScP v (afK st2 (65535 : Nat) n) u) => endp_any v _ u h
  have hsu := fun k => nmK_succ st2 (65535 : Nat) k
  have hle := fun k => nmK_le st2 65535 k
  have N3 := Lib.hid n3
  have N4 := Lib.hid n4
  have HSU := Lib.hid hsu
  have HLE := Lib.hid hle
  have HB := Lib.hid hB
  clear n3 n4 hsu hle hB
  go_enter Tryz.func75, Tryz.ntmps75
  go_upto_region 2 with (go_at_call 71; refine hn.mono ?_; rintro e w1 ⟨sv, rfl, s1, b1, g1⟩)
  go_upto_region 3 with (go_at_call 72; refine (n1 _ _ s1).mono ?_; rintro e w2 ⟨rfl, s2, f2⟩)
  have b2 := scp_below b1 f2 b1.size g1
  clear n1 s1 f2 hn b1
  go_upto_region 4 with (go_at_call 72; refine (n2 _ _ s2).mono ?_; rintro e w3 ⟨rfl, s3, f3⟩)
  have b3 := scp_below b2 f3 b2.size g1
  clear n2 s2 f3 b2
  go_loopw [4, 14] (fun v i wr => ∃ k : Nat, k ≤ n ∧ i = .int .i64 k ∧ OwnI v ((nmK st2 (65535 : Nat) k).map Int.ofNat) wr ∧ ScP sv (afK st2 (65535 : Nat) k) wr ∧ (∀ j, v.ownBlock = some j → w.heap.size ≤ j) ∧ Below w.heap.size w wr) (fun _ i _ => n - (intOf i).toNat)
  case atStart => exact ⟨0, Nat.zero_le _, rfl, OwnI.nil _, s3, fun j e => by simp [Value.ownBlock] at e, b3⟩
  case round =>
    clear s3 b3
    obtain ⟨k, hk, rfl, hO, hS, hge, hbl⟩ := hrel
    obtain ⟨va, vc, rfl⟩ := hO.slice
    have hlk : ((nmK st2 (65535 : Nat) k).map Int.ofNat).length = k := by rw [List.length_map, nmK_len]
    rw [hlk] at hO hge ⊢
    by_cases hlt : k < n
    · have n3 := N3.out k sv wr hS
      have hsk := HSU.out k
      have hy : numV (afK st2 (65535 : Nat) k) (65535 : Nat) = numV (afK st2 (65535 : Nat) k) 65535 := rfl
      rw [hy] at hsk
      have hst : afK st2 (65535 : Nat) (k + 1) = numS (afK st2 (65535 : Nat) k) 65535 := rfl
      rw [← hst] at n3
      generalize numV (afK st2 (65535 : Nat) k) 65535 = y at *
      have HST := Lib.hid hsk
      have HO := Lib.hid hO
      have HGE := Lib.hid hge
      have HS := Lib.hid hS
      have HL := Lib.hid hlk
      clear hsk hy hst hO hge hS hlk
      go_wp2_with (first
        | (go_at_call 72; refine n3.mono ?_; rintro e w5 ⟨rfl, s5, f5⟩; have O5 := HO.out.scan HS.out f5)
        | (at_builtin; refine wpList_append_one Tryz.underlying23 info_int rfl (by decide) (by decide) rfl (.tmp 16) (.tmp 19) rfl (.slice va k vc) k (((nmK st2 (65535 : Nat) k).map Int.ofNat).map fun z => Value.int .i64 z) rfl (by have := O5; unfold OwnI at this; rw [HL.out] at this; exact World.ownsRow.alloc this _) w5.heap.size rfl [.int .i64 (y : Int)] rfl (by intro u hu; simp at hu; subst hu; rfl) (int_one w5 _) (by omega) ?_; intro v' w6 hO6 hg6 hgo))
      have b5 := scp_below hbl f5 hbl.size g1
      have s6 : ScP sv (afK st2 (65535 : Nat) (k + 1)) w6 := ScP.grown (v := .slice va k vc) (l := (nmK st2 (65535 : Nat) k).map Int.ofNat) (s5.old ((Below.refl _ _).alloc (Nat.le_refl _) _)) (O5.old ((Below.refl _ _).alloc (Nat.le_refl _) _)) hg6
      go_roundw
      case rel =>
        refine ⟨k + 1, by omega, by go_num, ?_, s6, fun j e => ?_, below_grown (b5.alloc b5.size _) hg6 (by have := b5.size; simp; omega) fun j e => HGE.out j e⟩
        · rw [HST.out]
          unfold OwnI
          have e1 : (List.map Int.ofNat (nmK st2 (65535 : Nat) k ++ [y])).length = k + 1 := by
            rw [List.map_append, List.length_append, HL.out]; rfl
          rw [e1]
          simpa using hO6
        · rcases hgo j e with e' | e'
          · exact HGE.out j e'
          · have := b5.size
            simp at e'
            omega
      case measure => simp [intOf]; omega
    · obtain rfl : n = k := by omega
      have n4 := N4.out sv wr hS
      have hB := HB.out
      clear HB
      generalize endV (afK st2 (65535 : Nat) n) = E at *
      have HO := Lib.hid hO
      clear hO hlk N3 N4 HSU HLE hlt hk
      by_cases hE : E = 0
      · subst hE
        by_cases hA : A = s
        · subst hA
          by_cases hn1 : 1 ≤ n
          · have hd : decide ((1 : Int) ≤ (n : Int)) = true := decide_eq_true (by omega)
            rw [decide_eq_true rfl, decide_eq_true rfl, decide_eq_true hn1] at hB
            replace hB : B = true := hB
            subst hB
            go_wp2_with (go_at_call 73; refine n4.mono ?_; rintro e w7 ⟨rfl, rfl⟩)
            go_ret2
            exact ⟨_, rfl, HO.out, hbl, hge⟩
          · have hd : decide ((1 : Int) ≤ (n : Int)) = false := decide_eq_false (by omega)
            have hn1' : ¬ (1 : Int) ≤ (n : Int) := by omega
            rw [decide_eq_true rfl, decide_eq_true rfl, decide_eq_false hn1] at hB
            replace hB : B = false := hB
            subst hB
            go_wp2_with (go_at_call 73; refine n4.mono ?_; rintro e w7 ⟨rfl, rfl⟩)
            go_ret2
            exact ⟨_, rfl, HO.out, hbl, hge⟩
        · have hA' : ¬ (A : Int) = (s : Int) := by omega
          have hd : ((A : Int) == (s : Int)) = false := beq_false_of_ne hA'
          rw [decide_eq_true rfl, decide_eq_false hA, Bool.true_and, Bool.false_and] at hB
          subst hB
          go_wp2_with (go_at_call 73; refine n4.mono ?_; rintro e w7 ⟨rfl, rfl⟩)
          go_ret2
          exact ⟨_, rfl, HO.out, hbl, hge⟩
      · have hd : (E == 0) = false := beq_false_of_ne hE
        rw [decide_eq_false hE, Bool.false_and, Bool.false_and] at hB
        subst hB
        go_wp2_with (go_at_call 73; refine n4.mono ?_; rintro e w7 ⟨rfl, rfl⟩)
        go_ret2
        exact ⟨_, rfl, HO.out, hbl, hge⟩
end Go.Proofs.YtfcocbgdmmeikaaGreatDoor
/-! ## Package redo: the closure that tells a slot of a region. -/
namespace Go.Proofs.YtfcocbgdmmeikaaGreatDoor
open Go.RowKit Dsk

theorem below_drewN2 {w : World} (n : Nat) : Below w.heap.size w (w.drewN n) := ⟨rfl, rfl, rfl, Nat.le_refl _, fun _ _ => rfl⟩
/-- The variables that a region's slots are told by. -/
structure SlV (b4 b5 : Nat) (v : Value) (place : Nat) (w : World) : Prop where
  h4 : w.heap[b4]? = some (.cells #[v] 30 (0, 0))
  h5 : w.heap[b5]? = some (.cells #[.int .i64 (place : Int)] 3 (0, 0))
theorem SlV.old {b4 b5 : Nat} {v : Value} {place : Nat} {w w' : World} (h : SlV b4 b5 v place w) (hb : Below w.heap.size w w') : SlV b4 b5 v place w' :=
  ⟨(hb.block b4 (Array.getElem?_eq_some_iff.1 h.h4).1).trans h.h4, (hb.block b5 (Array.getElem?_eq_some_iff.1 h.h5).1).trans h.h5⟩
/-- The slots of a row of texts. -/
def rowR (ts : List ByteArray) : Nat → ByteArray := fun i => ts.getD i .empty
theorem slotT_any (b4 b5 : Nat) (v : Value) (place i : Nat) (ts : List ByteArray) (w : World) (hv : StrRow w v ts) (h : SlV b4 b5 v place w) (hm : 1 ≤ ts.length) (hm2 : ts.length ≤ 1000000) (hp : place ≤ 1000000) (hi : i ≤ 1000000) :
    Calls Tryz.prog 74 #[.int .i64 (i : Int), .pointer (some ⟨b4, 0, none⟩), .pointer (some ⟨b5, 0, none⟩)] w fun e w' => e = .returned (.string (rowR ts ((place + i) % ts.length))) ∧ Below w.heap.size w w' := by
  obtain ⟨a, cap, rfl, hl, hc⟩ := hv
  obtain ⟨b, off, rfl, hb, hj⟩ := hc (fun e => by rw [e] at hm; simp at hm)
  have c4 : w.cell? ⟨b4, 0, none⟩ = some (.slice (some ⟨b, off, none⟩) ts.length cap) := cell_of h.h4 0
  have c5 : w.cell? ⟨b5, 0, none⟩ = some (.int .i64 (place : Int)) := cell_of h.h5 0
  have hmod := Nat.mod_lt (place + i) (show 0 < ts.length by omega)
  have hne : ¬ (ts.length : Int) = 0 := by omega
  have e1 : (((place : Int) + (i : Int)).tmod (ts.length : Int)) = ((place + i) % ts.length : Nat) := by rw [← Int.natCast_add, ← Int.ofNat_tmod]
  have cj := hj _ hmod
  unfold rowR
  generalize (place + i) % ts.length = r at *
  have hr1 : (0 : Int) ≤ (r : Int) := by omega
  have hr2 : (r : Int) < (ts.length : Int) := by omega
  generalize ts.getD r ByteArray.empty = X at *
  generalize ts.length = m at *
  clear hc hj h
  go_enter Tryz.func74, Tryz.ntmps74
  go_wp2
  go_quiet (fail)
  go_wp2
  go_ret
  exact ⟨rfl, below_drewN2 _⟩
section
variable {ops : Array Oper} {Q : Exit → Act → World → Prop} {a : Act} {w w' : World} {K : Act → World → Prop} {o : Oper}
theorem rop_append (s x : Operand) (t : TypeId) (hop : o.op = .call { callee := .builtin .append, args := #[s, x], argTypes := #[t, t] }) {v u v' : Value} {w' : World} (hs : a.eval s = v) (hx : a.eval x = u) (hr : (Builtin.append_ #[t, t] o.type #[v, u]).run Tryz.prog w = .ok v' w') (hw : Region.wanted o (yielded ops a.tmps) = true) (h : K (a.put o.dst v') w') :
    if Region.wanted o (yielded ops a.tmps) = true then Oper.wp Tryz.prog o a w K Q else K (a.put o.dst undef) w := by
  rw [if_pos hw]
  unfold Oper.wp execOp
  simp only [hop, resolve, invoke, builtin, Sem.run_bind, Sem.run_pure, Result.andThen_ok, List.map_toArray, List.map_cons, List.map_nil, hs, hx, hr]
  exact h
theorem build_put1 (y : Int) (s : ByteArray) (w : World) : (Instr.buildSlice 58 1 #[(0, .agg #[.int .i64 y, .string s])]).run Tryz.prog w = .ok (.slice (some ⟨w.heap.size, 0, none⟩) 1 1) (w.alloc (.cells #[.int .i64 y, .string s] 64)) := by go_simp
theorem rop_put1 (x : Operand) (hop : o.op = .buildSlice 58 1 #[(0, x)]) {y : Int} {s : ByteArray} (hx : a.eval x = .agg #[.int .i64 y, .string s]) (hw : Region.wanted o (yielded ops a.tmps) = true) (h : K (a.put o.dst (.slice (some ⟨w.heap.size, 0, none⟩) 1 1)) (w.alloc (.cells #[.int .i64 y, .string s] 64))) :
    if Region.wanted o (yielded ops a.tmps) = true then Oper.wp Tryz.prog o a w K Q else K (a.put o.dst undef) w :=
  rop_v hw (by simp [execOp, hop, hx, build_put1]) h
end
theorem built_put (a : Int) (s : ByteArray) (w : World) : (Instr.build 64 #[(0, .int .i64 a), (1, .string s)]).run Tryz.prog w = .ok (.agg #[.int .i64 a, .string s]) w := by go_simp
theorem load_string {b o : Nat} {x : ByteArray} {w : World} (h0 : w.cell? ⟨b, o, none⟩ = some (.string x)) : (Instr.loadAt 9 (.pointer (some ⟨b, o, none⟩))).run Tryz.prog w = .ok (.string x) w := by go_simp
theorem append_put (c : List (Nat × ByteArray)) (cv : Value) (w : World) (ty : TypeId) (hc : CacheAt cv c w) (q : Nat) (y : Nat × ByteArray) (hq : w.heap[q]? = some (.cells #[.int .i64 (y.1 : Int), .string y.2] 64 (0, 0))) (hlen : c.length < 1000000) :
    ∃ cv' w', (Builtin.append_ #[58, 58] ty #[cv, .slice (some ⟨q, 0, none⟩) 1 1]).run Tryz.prog w = .ok cv' w' ∧ CacheAt cv' (c ++ [y]) w' ∧ w.grownBy w' cv.ownBlock ∧ ∀ k, cv'.ownBlock = some k → cv.ownBlock = some k ∨ w.heap.size ≤ k := by
  obtain ⟨i0, hi, hz0, hz1, hz2⟩ := info_parts info_put
  have hc' := hc
  unfold CacheAt at hc'
  rw [← hz1] at hc'
  obtain ⟨v', w', hr, h2, h3, h4⟩ := append_where (ty := ty) Tryz.underlying58 hi hz0 (by rw [hz1]; rfl) (by rw [hz1]; decide) cv c.length (putCs c) hc' ⟨q, 0, none⟩ 1 1 [.int .i64 (y.1 : Int), .string y.2] (by rw [hz1]; rfl)
    (fun j u hu => by
      rw [Addr.add_mid, Nat.zero_add]
      match j, hu with
      | 0, hu => simp at hu; subst hu; exact cell_of hq 0
      | 1, hu => simp at hu; subst hu; exact cell_of hq 1) (by intro u hu; simp at hu; rcases hu with rfl | rfl <;> rfl) (by unfold maxLen; omega) (by rw [hz2]; omega) (by decide)
  refine ⟨v', w', hr, ?_, h3, h4⟩
  unfold CacheAt
  rw [List.length_append, List.length_singleton, putCs_snoc, ← hz1]
  exact h2
end Go.Proofs.YtfcocbgdmmeikaaGreatDoor
/-! ## Package redo: a transaction is read. -/
namespace Go.Proofs.YtfcocbgdmmeikaaGreatDoor
open Go.RowKit Dsk

def LxP (k k' : Nat) (u u' : World) : Prop := (k = k' ∧ Below u.heap.size u u') ∨ (k = 0 ∧ k' = 1)
/-- A row of one write, till it is appended. -/
def QX (A : Nat) (X : ByteArray) : RXP LxP := ⟨fun ph v u => ph = 0 → ∃ q, v = .slice (some ⟨q, 0, none⟩) 1 1 ∧ u.heap[q]? = some (.cells #[.int .i64 (A : Int), .string X] 64 (0, 0)), fun v u u' k k' h hl hk => by
  rcases hl with ⟨rfl, hb⟩ | ⟨rfl, rfl⟩
  · obtain ⟨q, h1, h2⟩ := h hk
    exact ⟨q, h1, (hb.block q (Array.getElem?_eq_some_iff.1 h2).1).trans h2⟩
  · exact absurd hk (by decide)⟩
/-- A row of writes, once it is appended to. -/
def PX (B : Nat) (c : List (Nat × ByteArray)) : RXP LxP := ⟨fun ph v u => ph = 1 ∧ CacheAt v c u ∧ ∀ k, v.ownBlock = some k → B ≤ k, fun v u u' k k' h hl => by
  obtain ⟨rfl, h2, h3⟩ := h
  rcases hl with ⟨rfl, hb⟩ | ⟨h, _⟩
  · exact ⟨rfl, h2.kept fun k e => hb.block k (World.ownsRow.lt h2 k e).2, h3⟩
  · exact absurd h (by decide)⟩
/-- What is kept while writes are collected. -/
structure PhT (w wr : World) (b4 b5 : Nat) (rv : Value) (place : Nat) (aV : Value) (A0 : List Int) (cv : Value) (c : List (Nat × ByteArray)) (k : Nat) (u : World) : Prop where
  low : Below w.heap.size w u
  slv : SlV b4 b5 rv place u
  own : OwnI aV A0 u
  cache : k = 0 → CacheAt cv c u
  at0 : CacheAt cv c wr
  hge : ∀ j, cv.ownBlock = some j → w.heap.size ≤ j
section
variable {w wr : World} {b4 b5 : Nat} {rv : Value} {place : Nat} {aV : Value} {A0 : List Int} {cv : Value} {c : List (Nat × ByteArray)} {k : Nat} {u u' : World}
theorem PhT.old (h : PhT w wr b4 b5 rv place aV A0 cv c k u) (hb : Below u.heap.size u u') : PhT w wr b4 b5 rv place aV A0 cv c k u' :=
  ⟨below_step h.low (Nat.le_refl _) hb, h.slv.old hb, h.own.old hb, fun e => (h.cache e).kept fun j hj => hb.block j (World.ownsRow.lt (h.cache e) j hj).2, h.at0, h.hge⟩
theorem PhT.start (hl : Below w.heap.size w wr) (hs : SlV b4 b5 rv place wr) (ho : OwnI aV A0 wr) (hc : CacheAt cv c wr ∧ ∀ j, cv.ownBlock = some j → w.heap.size ≤ j) : PhT w wr b4 b5 rv place aV A0 cv c 0 wr.drew :=
  PhT.old (u := wr) ⟨hl, hs, ho, fun _ => hc.1, hc.1, hc.2⟩ (below_drewN2 1)
theorem PhT.ints (h : PhT w wr b4 b5 rv place aV A0 cv c k u) {g o : Nat} {z : Int} (hc : ∀ u, OwnI aV A0 u → u.cell? ⟨g, o, none⟩ = some (.int .i64 z)) : u.cell? ⟨g, o, none⟩ = some (.int .i64 z) := hc u h.own
theorem PhT.grow (h : PhT w wr b4 b5 rv place aV A0 cv c 0 u) (hg : u.grownBy u' cv.ownBlock) : PhT w wr b4 b5 rv place aV A0 cv c 1 u' := by
  have hc := h.cache rfl
  have hne : ∀ (b : Nat) (C : Array Value) (T : TypeId), u.heap[b]? = some (Obj.cells C T (0, 0)) → T ≠ 64 → u'.heap[b]? = u.heap[b]? := fun b C T e hT => hg.block b (Array.getElem?_eq_some_iff.1 e).1 fun e2 => by
    obtain ⟨C', hC⟩ := CacheAt.type hc e2.symm
    rw [e] at hC
    simp at hC
    exact hT hC.2
  refine ⟨below_grown h.low hg h.low.size h.hge, ⟨(hne _ _ _ h.slv.h4 (by decide)).trans h.slv.h4, (hne _ _ _ h.slv.h5 (by decide)).trans h.slv.h5⟩, h.own.kept fun j e => ?_, fun e => absurd e (by decide), h.at0, h.hge⟩
  obtain ⟨C, hC⟩ := h.own.type e
  exact hne _ _ _ hC (by decide)
end
theorem range_take (n k : Nat) (f : Nat → Nat × ByteArray) (h : k < n) : ((List.range n).map f).take (k + 1) = ((List.range n).map f).take k ++ [f k] := by
  rw [List.take_succ_eq_append_getElem (by simpa using h)]
  simp
theorem own_cell {A0 : List Int} {va : Option Addr} {n vc : Nat} {w : World} (h : OwnI (.slice va n vc) A0 w) (hn : A0.length = n) (hp : 0 < n) : ∃ g, va = some ⟨g, 0, none⟩ ∧ ∀ u, OwnI (.slice va n vc) A0 u → ∀ k, k < n → u.cell? ⟨g, 0 + k, none⟩ = some (.int .i64 (A0.getD k 0)) := by
  obtain ⟨b, hI, hb⟩ := h.ints
  obtain ⟨a, cap, e, _, hc⟩ := hI
  injection e with e1 e2 e3
  subst e1
  obtain ⟨off, e4, _, _⟩ := hc (fun e => by rw [e] at hn; simp at hn; omega)
  rcases h.2 with ⟨e5, _⟩ | ⟨g, cap', cur, e5, _⟩
  · injection e5 with e6 _ _
    rw [e6] at e4; cases e4
  · injection e5 with e6 _ _
    refine ⟨g, e6, fun u hu k hk => ?_⟩
    have hh := hu
    unfold OwnI at hh
    rw [e6] at hh
    have := World.ownsRow.cells hh (g := g) rfl k (.int .i64 (A0.getD k 0)) (by rw [List.getElem?_map, List.getD_eq_getElem?_getD, List.getElem?_eq_getElem (by omega)]; rfl)
    rw [Addr.add_mid, Nat.zero_add] at this
    rw [Nat.zero_add]; exact this
theorem str_ne {a b : ByteArray} (h : ¬ a = b) (w : World) : (a.toList == b.toList) = false := by
  have h1 := eql_str a b w
  rw [decide_eq_false h] at h1
  have h2 : (binOp .eql 9 (.string a) (.string b)).run Tryz.prog w = .ok (.bool (a.toList == b.toList)) w := by go_simp
  rw [h2] at h1
  injection h1 with h1 _
  injection h1
theorem idx_ints {ga n ac k : Nat} (h : k < n) : ∀ u, (Instr.indexAt 23 (.slice (some ⟨ga, 0, none⟩) n ac) (.int .i64 (k : Int))).run Tryz.prog u = .ok (.pointer (some ⟨ga, 0 + k, none⟩)) u := by
  intro u
  have h1 : (k : Int) < (n : Int) := by omega
  go_simp
set_option maxHeartbeats 6400000 in
set_option maxRecDepth 100000 in
theorem readTxn_any (ts : List ByteArray) (rv : Value) (place seq left : Nat) (w : World) (hv : StrRow w rv ts) (hT : TW w) (hm : 3 ≤ ts.length) (hm2 : ts.length ≤ 70000) (hsz : ∀ t ∈ ts, t.size ≤ 1000000) (hp : place < ts.length) (hq : seq ≤ 1099511627776) (_hleft : left ≤ ts.length) :
    Calls Tryz.prog 40 #[rv, .int .i64 (place : Int), .int .i64 (seq : Int), .int .i64 (left : Int)] w fun e w' => ∃ v', e = .returned (.tuple #[v', .bool (txF (rowR ts) ts.length place seq left).isSome]) ∧ Below w.heap.size w w' ∧ (∀ t, txF (rowR ts) ts.length place seq left = some t → CacheAt v' t w') ∧ ∀ k, v'.ownBlock = some k → w.heap.size ≤ k := by
  have hv0 := hv
  obtain ⟨ra, rcap, rfl, _, _⟩ := hv
  have hv := hv0
  clear hv0
  obtain ⟨x, hx⟩ : ∃ x, x = rowR ts (place % ts.length) := ⟨_, rfl⟩
  have hxs : ∀ i, (rowR ts (i % ts.length)).size ≤ 1000000 := fun i => by
    have hi := Nat.mod_lt i (show 0 < ts.length by omega)
    unfold rowR
    rw [List.getD_eq_getElem?_getD, List.getElem?_eq_getElem hi]
    exact hsz _ (List.getElem_mem hi)
  have hx0 : x.size ≤ 1000000 := by rw [hx]; exact hxs place
  have hmf : ∀ (fn : Fn) (first cap : Array Value) (w : World), (Instr.makeFunc fn first cap).run Tryz.prog w = .ok (.func fn first cap) w := fun _ _ _ _ => rfl
  have hn60 := fN_le x
  have hfl := fAt_len x
  have hfle := fAt_le x
  -- the answer
  obtain ⟨ans, hans⟩ : ∃ ans, ans = txF (rowR ts) ts.length place seq left := ⟨_, rfl⟩
  have ht : ans = if fOk x seq && decide (fN x + 2 ≤ left) && decide (rowR ts ((place + (fN x + 1)) % ts.length) = lsL seq (fN x)) then some ((List.range (fN x)).map fun i => ((fAt x).getD i 0, rowR ts ((place + (1 + i)) % ts.length))) else none := by
    rw [hans]; unfold txF; rw [← hx]
  rw [← hans]
  have HT := Lib.hid ht
  have HV := Lib.hid hv
  have HXS := Lib.hid hxs
  obtain ⟨wb, hwb⟩ : ∃ wb, wb = (w.alloc (.cells #[(.slice ra ts.length rcap)] 30)).alloc (.cells #[.int .i64 (place : Int)] 3) := ⟨_, rfl⟩
  have hb1 : Below w.heap.size w (w.alloc (.cells #[(.slice ra ts.length rcap)] 30)) := (Below.refl _ _).alloc (Nat.le_refl _) _
  have hbb : Below w.heap.size w wb := by rw [hwb]; exact hb1.alloc hb1.size _
  obtain ⟨b4, hb4⟩ : ∃ b4, b4 = w.heap.size := ⟨_, rfl⟩
  obtain ⟨b5, hb5⟩ : ∃ b5, b5 = w.heap.size + 1 := ⟨_, rfl⟩
  have hslv : SlV b4 b5 (.slice ra ts.length rcap) place wb := by
    refine ⟨?_, ?_⟩
    · rw [hwb, hb4]
      exact (((Below.refl (w.alloc (.cells #[(.slice ra ts.length rcap)] 30)).heap.size _).alloc (Nat.le_refl _) _).block _ (by simp)).trans (heap_alloc_last w _)
    · rw [hwb, hb5]
      have := heap_alloc_last (w.alloc (.cells #[(.slice ra ts.length rcap)] 30)) (.cells #[.int .i64 (place : Int)] 3)
      rw [World.size_alloc] at this
      exact this
  have hsl := fun (u : World) (i : Nat) (hi : i ≤ 1000000) (h : SlV b4 b5 (.slice ra ts.length rcap) place u) (hl : Below w.heap.size w u) => slotT_any b4 b5 (.slice ra ts.length rcap) place i ts u (hv.old hl) h (by omega) (by omega) (by omega) hi
  have HSL := Lib.hid hsl
  have h0 := hsl wb 0 (by omega) hslv hbb
  rw [Nat.add_zero, ← hx, show ((0 : Nat) : Int) = 0 from rfl] at h0
  have hrf := fun u (hT' : TW u) => readFirst_any x seq u hT' hx0 (by omega)
  have hls : ∀ u, TW u → Calls Tryz.prog 11 #[.int .i64 (seq : Int), .int .i64 (fN x : Int)] u fun e w' => e = .returned (.string (lsL seq (fN x))) ∧ Below u.heap.size u w' := by
    intro u hu1
    have := lsl_any (seq : Int) (fN x : Int) u hu1 (by omega) (by omega) (by omega) (by omega)
    rw [keptN_id _ _ (by omega), keptN_id _ _ (by omega)] at this
    exact this
  have HLS := Lib.hid hls
  have HFLE := Lib.hid hfle
  have HMF := Lib.hid hmf
  clear hans ht hv hxs hsl hls hfle hsz hmf hx
  generalize fOk x seq = ok at *
  generalize lsL seq (fN x) = Ll at *
  generalize fN x = n at *
  generalize fAt x = A0 at *
  have hln : (A0.map Int.ofNat).length = n := by rw [List.length_map]; exact hfl
  have HLN := Lib.hid hln
  have HFL := Lib.hid hfl
  clear hln hfl
  go_enter Tryz.func40, Tryz.ntmps40
  go_upto_region 1 with fail
  rw [← hwb, ← hb5, ← hb4]
  clear hwb hb5 hb4
  have hmf := HMF.out
  go_upto_region 3 with (first
    | (go_at_call 74; refine h0.mono ?_; rintro e w1 ⟨rfl, q1⟩; have bb1 := below_step hbb (Nat.le_refl _) q1; have t1 := hT.old bb1; have sl1 := hslv.old q1)
    | (go_at_call 75; refine (hrf _ t1).mono ?_; rintro e w2 ⟨av, rfl, hO, q2, g2⟩))
  have bb2 := below_step bb1 (Nat.le_refl _) q2
  have sl2 := sl1.old q2
  have t2 := hT.old bb2
  obtain ⟨aa, ac, rfl⟩ := hO.slice
  rw [HLN.out] at hO g2 ⊢
  clear h0 hrf t1 sl1 q1 q2 bb1 hslv hbb hmf HMF hx0
  go_upto_region 4 with fail
  cases ok with
  | false =>
    have hN : ans = none := by rw [HT.out]; rfl
    subst hN
    go_wp2
    go_ret2
    exact ⟨_, rfl, bb2, fun t e => (by cases e), fun j e => by simp [Value.ownBlock] at e⟩
  | true =>
    by_cases hl2 : n + 2 ≤ left
    · have hl2' : ¬ (left : Int) < (n : Int) + 2 := by omega
      have h1 := HSL.out w2 (n + 1) (by omega) sl2 bb2
      rw [show (((n + 1 : Nat) : Int)) = (n : Int) + 1 by omega] at h1
      have hls := HLS.out
      by_cases hL : rowR ts ((place + (n + 1)) % ts.length) = Ll
      · have hS : ans = some ((List.range n).map fun i => (A0.getD i 0, rowR ts ((place + (1 + i)) % ts.length))) := by
          rw [HT.out, decide_eq_true hl2, decide_eq_true hL]; rfl
        rw [hL] at h1
        obtain ⟨TT, hTT⟩ : ∃ TT, TT = ((List.range n).map fun i => (A0.getD i 0, rowR ts ((place + (1 + i)) % ts.length))) := ⟨_, rfl⟩
        rw [← hTT] at hS
        subst hS
        have HTT := Lib.hid hTT
        clear hTT hL
        go_upto_region 6 with (first
          | (go_at_call 74; refine h1.mono ?_; rintro e w3 ⟨rfl, q3⟩; have t3 := t2.old q3)
          | (go_at_call 11; refine (hls _ t3).mono ?_; rintro e w4 ⟨rfl, q4⟩))
        have bb3 := below_step bb2 (Nat.le_refl _) q3
        have bb4 := below_step bb3 (Nat.le_refl _) q4
        have sl4 := (sl2.old q3).old q4
        have hO4 := (hO.old q3).old q4
        clear h1 hls t2 t3 sl2 hO bb2 bb3 q3 q4
        go_upto_region 7 with fail
        go_loopw [8, 43] (fun v i wr => ∃ k : Nat, k ≤ n ∧ i = .int .i64 k ∧ CacheAt v (TT.take k) wr ∧ (∀ j, v.ownBlock = some j → w.heap.size ≤ j) ∧ SlV b4 b5 (.slice ra ts.length rcap) place wr ∧ OwnI (.slice aa n ac) (A0.map Int.ofNat) wr ∧ Below w.heap.size w wr) (fun _ i _ => n - (intOf i).toNat)
        case atStart => exact ⟨0, Nat.zero_le _, rfl, CacheAt.nil _, fun j e => by simp [Value.ownBlock] at e, sl4, hO4, bb4⟩
        case round =>
          obtain ⟨k, hk, rfl, hcc, hge, hsv, hO, hbl⟩ := hrel
          clear sl4 hO4 bb4
          by_cases hlt : k < n
          · obtain ⟨ga, rfl, hca0⟩ := own_cell hO HLN.out (by omega)
            have hca1 := fun u hu => hca0 u hu k hlt
            have hA : (A0.map Int.ofNat).getD k 0 = ((A0.getD k 0 : Nat) : Int) := ints_getD A0 k
            rw [hA] at hca1
            have htk : TT.take (k + 1) = TT.take k ++ [(A0.getD k 0, rowR ts ((place + (1 + k)) % ts.length))] := by rw [HTT.out]; exact range_take n k _ hlt
            have hsl := fun u (h : SlV b4 b5 (.slice ra ts.length rcap) place u) (hl : Below w.heap.size w u) => HSL.out u (1 + k) (by omega) h hl
            have hAle : A0.getD k 0 ≤ 65535 := HFLE.out _ (getD_mem A0 k (by have := HFL.out; omega))
            generalize A0.getD k 0 = A at *
            generalize rowR ts ((place + (1 + k)) % ts.length) = X at *
            rw [show (((1 + k : Nat)) : Int) = 1 + (k : Int) by omega] at hsl
            have hix := idx_ints (ga := ga) (ac := ac) hlt
            obtain ⟨c, hc⟩ : ∃ c, c = TT.take k := ⟨_, rfl⟩
            have hcl : c.length ≤ 100 := by rw [hc, List.length_take]; omega
            rw [← hc] at hcc htk
            clear hc hca0 hA
            obtain ⟨va, vc, rfl⟩ := hcc.slice
            have HTK := Lib.hid htk
            clear htk
            go_upto_region 9 with fail
            refine wp_region_ph (Lx := LxP) [RXP.is (.slice va c.length vc), RXP.is (.slice (some ⟨ga, 0, none⟩) n ac), RXP.is (.int .i64 (k : Int)), RXP.is (.pointer (some ⟨ga, 0 + k, none⟩)), RXP.is (.int .i64 (A : Int)), RXP.is (.func (.func 74) #[] #[.pointer (some ⟨b4, 0, none⟩), .pointer (some ⟨b5, 0, none⟩)]), RXP.is (.int .i64 (k : Int)), RXP.is (.int .i64 (1 + (k : Int))), RXP.is (.string X), RXP.is (.agg #[.int .i64 (A : Int), .string X]), QX A X, PX w.heap.size (c ++ [(A, X)]), PX w.heap.size (c ++ [(A, X)])] [11] (PhT w wr b4 b5 (.slice ra ts.length rcap) place (.slice (some ⟨ga, 0, none⟩) n ac) (A0.map Int.ofNat) (.slice va c.length vc) c) (by kernel_rfl) (by kernel_rfl) (by kernel_rfl) (by kernel_rfl) (by kernel_rfl) (PhT.start hbl hsv hO ⟨hcc, hge⟩) ⟨?_, ?_, ?_, ?_, ?_, ?_, ?_, ?_, ?_, ?_, ?_, ?_, ?_, trivial⟩ ?_
            · intro ac' w' ph hF hPh hlt hP hU K hK0
              have e8 : ac'.eval (.tmp 8) = .slice va c.length vc := by
                have hu := hU 12 8 (by kernel_rfl) rfl
                simp [Act.eval, hu]
              exact rop_move _ rfl e8 (wanted_none rfl) (hK0 _ _ (.inl ⟨rfl, Below.refl _ _⟩) hPh rfl)
            · intro ac' w' ph hF hPh hlt hP hU K hK0
              have e11 : ac'.eval (.tmp 11) = .slice (some ⟨ga, 0, none⟩) n ac := hF.at 11 (by kernel_rfl)
              exact rop_move _ rfl e11 (wanted_none rfl) (hK0 _ _ (.inl ⟨rfl, Below.refl _ _⟩) hPh rfl)
            · intro ac' w' ph hF hPh hlt hP hU K hK0
              have e13 : ac'.eval (.tmp 13) = .int .i64 (k : Int) := hF.at 13 (by kernel_rfl)
              exact rop_move _ rfl e13 (wanted_none rfl) (hK0 _ _ (.inl ⟨rfl, Below.refl _ _⟩) hPh rfl)
            · intro ac' w' ph hF hPh hlt hP hU K hK0
              have e47 : ac'.eval (.tmp 47) = .slice (some ⟨ga, 0, none⟩) n ac := hP 1 (by kernel_rfl)
              have e48 : ac'.eval (.tmp 48) = .int .i64 (k : Int) := hP 2 (by kernel_rfl)
              exact rop_idx _ _ _ rfl e47 e48 (hix _) (wanted_none rfl) (hK0 _ _ (.inl ⟨rfl, Below.refl _ _⟩) hPh rfl)
            · intro ac' w' ph hF hPh hlt hP hU K hK0
              have e49 : ac'.eval (.tmp 49) = .pointer (some ⟨ga, 0 + k, none⟩) := hP 3 (by kernel_rfl)
              exact rop_ld _ _ rfl e49 (load_int (hPh.ints hca1)) (wanted_none rfl) (hK0 _ _ (.inl ⟨rfl, Below.refl _ _⟩) hPh rfl)
            · intro ac' w' ph hF hPh hlt hP hU K hK0
              have e10 : ac'.eval (.tmp 10) = .func (.func 74) #[] #[.pointer (some ⟨b4, 0, none⟩), .pointer (some ⟨b5, 0, none⟩)] := hF.at 10 (by kernel_rfl)
              exact rop_move _ rfl e10 (wanted_none rfl) (hK0 _ _ (.inl ⟨rfl, Below.refl _ _⟩) hPh rfl)
            · intro ac' w' ph hF hPh hlt hP hU K hK0
              have e13 : ac'.eval (.tmp 13) = .int .i64 (k : Int) := hF.at 13 (by kernel_rfl)
              exact rop_move _ rfl e13 (wanted_none rfl) (hK0 _ _ (.inl ⟨rfl, Below.refl _ _⟩) hPh rfl)
            · intro ac' w' ph hF hPh hlt hP hU K hK0
              have e52 : ac'.eval (.tmp 52) = .int .i64 (k : Int) := hP 6 (by kernel_rfl)
              exact rop_bin _ _ _ _ _ rfl rfl e52 (guard_int _ _ _ _ _ _ _ _) (add_int _ _ _ rfl (by omega) _) (wanted_none rfl) (hK0 _ _ (.inl ⟨rfl, Below.refl _ _⟩) hPh rfl)
            · intro ac' w' ph hF hPh hlt hP hU K hK0
              have e51 : ac'.eval (.tmp 51) = .func (.func 74) #[] #[.pointer (some ⟨b4, 0, none⟩), .pointer (some ⟨b5, 0, none⟩)] := hP 5 (by kernel_rfl)
              have e53 : ac'.eval (.tmp 53) = .int .i64 (1 + (k : Int)) := hP 7 (by kernel_rfl)
              refine rop_callv 74 _ _ _ rfl #[.pointer (some ⟨b4, 0, none⟩), .pointer (some ⟨b5, 0, none⟩)] #[.int .i64 (1 + (k : Int))] e51 (by simp [e53]) (by kernel_rfl) (wanted_none rfl) ?_
              refine (hsl _ hPh.slv hPh.low).mono ?_
              rintro e w2 ⟨rfl, hb⟩
              exact ⟨_, rfl, hK0 _ _ (.inl ⟨rfl, hb⟩) (hPh.old hb) rfl⟩
            · intro ac' w' ph hF hPh hlt hP hU K hK0
              have e50 : ac'.eval (.tmp 50) = .int .i64 (A : Int) := hP 4 (by kernel_rfl)
              have e54 : ac'.eval (.tmp 54) = .string X := hP 8 (by kernel_rfl)
              exact rop_v (wanted_none rfl) (by simp [execOp, e50, e54, built_put]) (hK0 _ _ (.inl ⟨rfl, Below.refl _ _⟩) hPh rfl)
            · intro ac' w' ph hF hPh hlt hP hU K hK0
              have e55 : ac'.eval (.tmp 55) = .agg #[.int .i64 (A : Int), .string X] := hP 9 (by kernel_rfl)
              exact rop_put1 _ rfl e55 (wanted_none rfl) (hK0 _ _ (.inl ⟨rfl, (Below.refl _ _).alloc (Nat.le_refl _) _⟩) (hPh.old ((Below.refl _ _).alloc (Nat.le_refl _) _)) (fun _ => ⟨_, rfl, heap_alloc_last _ _⟩))
            · intro ac' w' ph hF hPh hlt hP hU K hK0
              obtain rfl : ph = 0 := (hlt 0 11 rfl).1 rfl
              have e46 : ac'.eval (.tmp 46) = .slice va c.length vc := hP 0 (by kernel_rfl)
              have e56 : (QX A X).p 0 (ac'.eval (.tmp 56)) w' := hP 10 (by kernel_rfl)
              obtain ⟨q, e56, hq⟩ := e56 rfl
              obtain ⟨cv', w6, hr6, hc6, hg6, ho6⟩ := append_put c (.slice va c.length vc) w' _ (hPh.cache rfl) q (A, X) hq (by omega)
              exact rop_append _ _ _ rfl e46 e56 hr6 (wanted_none rfl) (hK0 _ _ (.inr ⟨rfl, rfl⟩) (hPh.grow hg6) ⟨rfl, hc6, fun j e => by
                rcases ho6 j e with h | h
                · exact hge j h
                · exact Nat.le_trans hPh.low.size h⟩)
            · intro ac' w' ph hF hPh hlt hP hU K hK0
              have e57 : (PX w.heap.size (c ++ [(A, X)])).p ph (ac'.eval (.tmp 57)) w' := hP 11 (by kernel_rfl)
              exact rop_assign _ rfl rfl (wanted_none rfl) (hK0 _ _ (.inl ⟨rfl, Below.refl _ _⟩) hPh e57)
            · intro ac' w' hF hPh hT'
              have e8 : (PX w.heap.size (c ++ [(A, X)])).p 1 (ac'.eval (.tmp 8)) w' := hT' 12 (by decide)
              obtain ⟨_, hc8, ho8⟩ := e8
              rw [hF.sets [46, 47, 48, 49, 50, 51, 52, 53, 54, 55, 56, 57, 8] (by kernel_rfl)]
              simp only [List.foldl_cons, List.foldl_nil, List.setIfInBounds_toArray, List.set_cons_succ, List.set_cons_zero]
              generalize ac'.eval (.tmp 46) = u46
              generalize ac'.eval (.tmp 47) = u47
              generalize ac'.eval (.tmp 48) = u48
              generalize ac'.eval (.tmp 49) = u49
              generalize ac'.eval (.tmp 50) = u50
              generalize ac'.eval (.tmp 51) = u51
              generalize ac'.eval (.tmp 52) = u52
              generalize ac'.eval (.tmp 53) = u53
              generalize ac'.eval (.tmp 54) = u54
              generalize ac'.eval (.tmp 55) = u55
              generalize ac'.eval (.tmp 56) = u56
              generalize ac'.eval (.tmp 57) = u57
              generalize ac'.eval (.tmp 8) = v8 at hc8 ho8 ⊢
              clear hT' hF ac'

              have hrel' : CacheAt v8 (TT.take (k + 1)) w' := by rw [HTK.out]; exact hc8
              have P1 := hPh.slv
              have P2 := hPh.own
              have P3 := hPh.low
              clear hPh hc8
              go_wp2
              go_roundw
              case rel => exact ⟨k + 1, by omega, by go_num, hrel', ho8, P1, P2, P3⟩
              case measure => simp [intOf]; omega
          · obtain rfl : n = k := by omega
            have hTn : TT.take n = TT := List.take_of_length_le (by rw [HTT.out]; simp)
            rw [hTn] at hcc
            have HCC := Lib.hid hcc
            clear hcc hTn
            go_wp2
            go_ret2
            exact ⟨_, rfl, hbl, fun t e => (by have e' := Option.some.inj e; rw [← e']; exact HCC.out), hge⟩
      · have hN : ans = none := by
          rw [HT.out, decide_eq_false hL, Bool.and_false]; rfl
        subst hN
        obtain ⟨R1, hR1⟩ : ∃ R1, R1 = rowR ts ((place + (n + 1)) % ts.length) := ⟨_, rfl⟩
        rw [← hR1] at h1 hL
        clear hR1
        have hbf : (R1.toList == Ll.toList) = false := str_ne hL w
        go_wp2_with (first
          | (go_at_call 74; refine h1.mono ?_; rintro e w3 ⟨rfl, q3⟩; have t3 := t2.old q3)
          | (go_at_call 11; refine (hls _ t3).mono ?_; rintro e w4 ⟨rfl, q4⟩))
        go_ret2
        exact ⟨_, rfl, below_step (below_step bb2 (Nat.le_refl _) q3) (Nat.le_refl _) q4, fun t e => (by cases e), fun j e => by simp [Value.ownBlock] at e⟩
    · have hl2' : (left : Int) < (n : Int) + 2 := by omega
      have hN : ans = none := by rw [HT.out, decide_eq_false hl2, Bool.and_false, Bool.false_and]; rfl
      subst hN
      go_wp2
      go_ret2
      exact ⟨_, rfl, bb2, fun t e => (by cases e), fun j e => by simp [Value.ownBlock] at e⟩
end Go.Proofs.YtfcocbgdmmeikaaGreatDoor
/-! ## Package redo: Scan: what is found in a region. -/
namespace Go.Proofs.YtfcocbgdmmeikaaGreatDoor
open Go.RowKit Dsk

theorem info_rows : (Tryz.prog.info? 58).map (fun i => (i.zero, i.size, i.bytes)) = some (some (.slice none 0 0), 1, 24) := by kernel_rfl
/-- A row of rows of writes, all of whose blocks lie from B on. -/
def Rows (B : Nat) (v : Value) (l : List Jnl.Txn) (w : World) : Prop := (∀ k, v.ownBlock = some k → B ≤ k) ∧ ∃ vs : List Value, vs.length = l.length ∧ w.ownsRow 0 58 1 v l.length vs ∧ ∀ (j : Nat) (h : j < l.length), CacheAt (vs.getD j undef) l[j] w ∧ ∀ k, (vs.getD j undef).ownBlock = some k → B ≤ k
theorem Rows.nil (B : Nat) (w : World) : Rows B (.slice none 0 0) [] w := ⟨fun k e => by simp [Value.ownBlock] at e, [], rfl, World.ownsRow_nil w 0 _ 1, fun j h => absurd h (Nat.not_lt_zero j)⟩
theorem Rows.old {B : Nat} {v : Value} {l : List Jnl.Txn} {w w' : World} (h : Rows B v l w) (hb : Below w.heap.size w w') : Rows B v l w' := by
  obtain ⟨h0, vs, h1, h2, h3⟩ := h
  refine ⟨h0, vs, h1, ?_, fun j hj => ⟨(h3 j hj).1.kept fun k e => hb.block k (World.ownsRow.lt (h3 j hj).1 k e).2, (h3 j hj).2⟩⟩
  refine ⟨h2.1, ?_⟩
  rcases h2.2 with e | ⟨g, cap, cur, e1, e2, hg, r⟩
  · exact .inl e
  · exact .inr ⟨g, cap, cur, e1, e2, (hb.block g (Array.getElem?_eq_some_iff.1 hg).1).trans hg, r⟩
theorem Rows.slice {B : Nat} {v : Value} {l : List Jnl.Txn} {w : World} (h : Rows B v l w) : ∃ a cap, v = .slice a l.length cap := by
  obtain ⟨_, vs, _, h2, _⟩ := h
  rcases h2.2 with ⟨rfl, h1⟩ | ⟨g, cap, cur, rfl, _⟩
  · exact ⟨none, 0, by rw [h1]⟩
  · exact ⟨_, cap, rfl⟩
theorem Rows.type {B : Nat} {v : Value} {l : List Jnl.Txn} {w : World} (h : Rows B v l w) {k : Nat} (e : v.ownBlock = some k) : ∃ C, w.heap[k]? = some (.cells C 58 (0, 0)) := by
  obtain ⟨_, vs, _, h2, _⟩ := h
  rcases h2.2 with ⟨rfl, _⟩ | ⟨g, cap, cur, rfl, _, hg, _⟩
  · simp [Value.ownBlock] at e
  · simp [Value.ownBlock] at e; subst e; exact ⟨_, hg⟩
theorem strRow_tail {w : World} {a : Option Addr} {n cap : Nat} {ts : List ByteArray} (h : StrRow w (.slice a n cap) ts) (h2 : 2 ≤ ts.length) : ∃ b off, a = some ⟨b, off, none⟩ ∧ b < w.heap.size ∧ n = ts.length ∧ w.cell? ⟨b, off, none⟩ = some (.string (ts.getD 0 .empty)) ∧ ∀ cap', StrRow w (.slice (some ⟨b, off + 1, none⟩) (ts.length - 1) cap') (ts.drop 1) := by
  obtain ⟨a', cap', e, hl, hc⟩ := h
  injection e with e1 e2 e3
  subst e1
  obtain ⟨b, off, rfl, hb, hj⟩ := hc (fun e => by rw [e] at h2; simp at h2)
  have hdl : (ts.drop 1).length = ts.length - 1 := by rw [List.length_drop]
  refine ⟨b, off, rfl, hb, e2, by have := hj 0 (by omega); rwa [Nat.add_zero] at this, fun cap' => ⟨some ⟨b, off + 1, none⟩, cap', by rw [hdl], by rw [hdl]; omega, fun _ => ⟨b, off + 1, rfl, hb, fun j h => ?_⟩⟩⟩
  have := hj (1 + j) (by rw [hdl] at h; omega)
  rw [← Nat.add_assoc] at this
  rw [this, List.getD_eq_getElem?_getD, List.getD_eq_getElem?_getD, List.getElem?_drop]
theorem results_tmp4 {fn : Func} {t u v z : Tmp} (h : fn.results = #[.tmp t, .tmp u, .tmp v, .tmp z]) (tmps : Array Value) (P : Program) (w : World) :
    (results fn tmps).run P w = .ok (.tuple #[tmps.getD t undef, tmps.getD u undef, tmps.getD v undef, tmps.getD z undef]) w := by
  simp [results, h]
theorem own_old {T : TypeId} {sz n : Nat} {v : Value} {xs : List Value} {w w' : World} (h : w.ownsRow 0 T sz v n xs) (hb : Below w.heap.size w w') : w'.ownsRow 0 T sz v n xs := by
  refine ⟨h.1, ?_⟩
  rcases h.2 with e | ⟨g, cap, cur, e1, e2, hg, r⟩
  · exact .inl e
  · exact .inr ⟨g, cap, cur, e1, e2, (hb.block g (Array.getElem?_eq_some_iff.1 hg).1).trans hg, r⟩
theorem slice_one (v : Value) (a : Option Addr) (n c : Nat) (h : v = .slice a n c) : ∀ u, [v][(0 : Nat)]? = some u → u = .slice a n c := by
  intro u hu
  simp at hu
  rw [← hu, h]
theorem val_one (w : World) (v : Value) (T : TypeId) : ∀ j u, [v][j]? = some u → (w.alloc (.cells #[v] T)).cell? ⟨w.heap.size, j, none⟩ = some u := by
  intro j u hu
  rw [cell_of (heap_alloc_last w _)]
  match j, hu with
  | 0, hu => simpa using hu
theorem Rows.grow {B : Nat} {v v' pv : Value} {l : List Jnl.Txn} {t : Jnl.Txn} {vs : List Value} {w w' : World} (hl : vs.length = l.length) (h3 : ∀ (j : Nat) (h : j < l.length), CacheAt (vs.getD j undef) l[j] w ∧ ∀ k, (vs.getD j undef).ownBlock = some k → B ≤ k)
    (hp : CacheAt pv t w) (hpb : ∀ k, pv.ownBlock = some k → B ≤ k) (hty : ∀ k, v.ownBlock = some k → ∃ C, w.heap[k]? = some (.cells C 58 (0, 0))) (hO : w'.ownsRow 0 58 1 v' (l.length + 1) (vs ++ [pv])) (hg : w.grownBy w' v.ownBlock) (hgo : ∀ k, v'.ownBlock = some k → B ≤ k) : Rows B v' (l ++ [t]) w' := by
  have keep : ∀ (cv : Value) (c : Jnl.Txn), CacheAt cv c w → CacheAt cv c w' := fun cv c hc => hc.kept fun k e => hg.block k (World.ownsRow.lt hc k e).2 fun e2 => by
    obtain ⟨C, hC⟩ := CacheAt.type hc e
    obtain ⟨D, hD⟩ := hty k e2.symm
    rw [hC] at hD
    simp at hD
  refine ⟨hgo, vs ++ [pv], by rw [List.length_append, List.length_append, hl]; rfl, by rw [List.length_append]; exact hO, fun j hj => ?_⟩
  rw [List.length_append, List.length_singleton] at hj
  by_cases e : j < l.length
  · rw [List.getElem_append_left e, List.getD_eq_getElem?_getD, List.getElem?_append_left (by omega), ← List.getD_eq_getElem?_getD]
    exact ⟨keep _ _ (h3 j e).1, (h3 j e).2⟩
  · obtain rfl : j = l.length := by omega
    rw [List.getElem_append_right (Nat.le_refl _), List.getD_eq_getElem?_getD, List.getElem?_append_right (by omega)]
    simp only [hl, Nat.sub_self, List.getElem_cons_zero, List.getElem?_cons_zero, Option.getD_some]
    exact ⟨keep _ _ hp, hpb⟩
set_option maxHeartbeats 6400000 in
set_option maxRecDepth 100000 in
theorem scan_any (ts : List ByteArray) (m : Nat) (X0 : ByteArray) (rv : Value) (w : World) (hv : StrRow w rv ts) (hcap : ∀ a n c, rv = .slice a n c → n ≤ c) (hT : TW w) (hm : ts.length = m + 1) (hX : X0 = ts.getD 0 .empty) (hm2 : m ≤ 65535) (hsz : ∀ t ∈ ts, t.size ≤ 1000000) (h3 : 3 ≤ m) (hok : hOk X0 m = true) :
    Calls Tryz.prog 15 #[rv] w fun e w' => ∃ l v', e = .returned (.tuple #[.int .i64 ((hP X0 m + Jnl.slots l) % m : Nat), .int .i64 (hS X0 m + l.length : Nat), v', .bool true]) ∧ Found (rowR (ts.drop 1)) m (hP X0 m) (hS X0 m) l ∧ Rows w.heap.size v' l w' ∧ Below w.heap.size w w' := by
  have hv0 := hv
  obtain ⟨ra, rcap, rfl, _, _⟩ := hv
  have hrc := hcap _ _ _ rfl
  obtain ⟨b, off, rfl, hb, _, c0, hst⟩ := strRow_tail hv0 (by omega)
  rw [← hX] at c0
  have hx0 : X0.size ≤ 1000000 := by
    rw [hX, List.getD_eq_getElem?_getD, List.getElem?_eq_getElem (by omega)]
    exact hsz _ (List.getElem_mem _)
  have hdl : (ts.drop 1).length = m := by rw [List.length_drop, hm]; rfl
  have hds : ∀ t ∈ ts.drop 1, t.size ≤ 1000000 := fun t ht => hsz t (List.mem_of_mem_drop ht)
  have hst1 := hst (rcap - 1)
  rw [hm] at hrc hst1 ⊢
  rw [show m + 1 - 1 = m from rfl] at hst1
  have hr1 : ¬ rcap = 1 := by omega
  have hrh := readHead_any X0 m w hT hx0 (by omega) (by omega)
  rw [hok] at hrh
  have hp0 := hP_lt X0 (show 0 < m by omega)
  have hs0 := hS_le X0 m
  generalize hP X0 m = p0 at *
  generalize hS X0 m = s0 at *
  have hlen : ¬ ((m : Int) + 1) < 4 := by omega
  have HST := Lib.hid hst1
  have hrt := fun u (hb : Below w.heap.size w u) place seq left (h1 : place < m) (h2 : seq ≤ 1099511627776) (h3' : left ≤ m) => readTxn_any (ts.drop 1) _ place seq left u (hst1.old hb) (hT.old hb) (by omega) (by omega) hds (by omega) h2 (by omega)
  rw [hdl] at hrt
  have HRT := Lib.hid hrt
  clear hcap hv0 hm hX hsz hst hst1 hrt hdl hds
  generalize rowR (ts.drop 1) = R at *
  go_enter Tryz.func15, Tryz.ntmps15
  go_wp2
  go_step3
  go_wp2_with (go_at_call 39; refine hrh.mono ?_; rintro e w1 ⟨rfl, b1⟩)
  go_step3
  go_wp2
  go_loopw [2, 3, 4, 7] (fun v2 v3 v4 v7 wr => ∃ l : List Jnl.Txn, Path R m p0 s0 m l ∧ v2 = .int .i64 ((p0 + Jnl.slots l) % m : Nat) ∧ v3 = .int .i64 (s0 + l.length : Nat) ∧ v7 = .int .i64 (m - Jnl.slots l : Nat) ∧ Rows w.heap.size v4 l wr ∧ Below w.heap.size w wr) (fun _ _ _ v7 _ => (intOf v7).toNat)
  case atStart => exact ⟨[], trivial, by rw [show p0 + Jnl.slots [] = p0 from rfl, Nat.mod_eq_of_lt hp0], rfl, rfl, Rows.nil _ _, b1⟩
  case round =>
    clear b1 hrh c0
    obtain ⟨l, hpath, rfl, rfl, rfl, hrows, hbl⟩ := hrel
    have hroom := hpath.room
    have hge := slots_ge l
    obtain ⟨pl, hpl⟩ : ∃ pl, pl = (p0 + Jnl.slots l) % m := ⟨_, rfl⟩
    have hplm : pl < m := by rw [hpl]; exact Nat.mod_lt _ (by omega)
    have hrt := HRT.out wr hbl pl (s0 + l.length) (m - Jnl.slots l) hplm (by omega) (by omega)
    have hfm : txF R m pl (s0 + l.length) (m - Jnl.slots l) = txF R m (p0 + Jnl.slots l) (s0 + l.length) (m - Jnl.slots l) := by rw [hpl]; exact txF_mod _ _ _ _ _
    rw [hfm] at hrt
    rw [← hpl]
    clear hfm
    obtain ⟨q, hq⟩ : ∃ q, q = s0 + l.length := ⟨_, rfl⟩
    obtain ⟨left, hleft⟩ : ∃ left, left = m - Jnl.slots l := ⟨_, rfl⟩
    rw [← hq, ← hleft] at hrt ⊢
    cases htx : txF R m (p0 + Jnl.slots l) q left with
    | none =>
      rw [htx] at hrt
      have HTX := Lib.hid htx
      have HPL := Lib.hid hpl
      have HQ := Lib.hid hq
      have HLE := Lib.hid hleft
      clear htx hpl hq hleft
      go_wp2_with (go_at_call 40; refine hrt.mono ?_; rintro e w2 ⟨v', rfl, b2, _, _⟩)
      try rw [Exit.noGoto_ret]
      (try simp only [Exit.inBlock, Exit.then]); refine bodyPost_ret (results_tmp4 rfl _ _ _) rfl ?_
      refine ⟨l, _, ?_, ⟨hpath, ?_⟩, hrows.old b2, below_step hbl (Nat.le_refl _) b2⟩
      · rw [← HPL.out, ← HQ.out]; rfl
      · rw [← HQ.out, ← HLE.out]; exact HTX.out
    | some t =>
      rw [htx] at hrt
      obtain ⟨ht1, ht2⟩ := txF_some htx
      have ht60 := ht1.most
      have htp := ht1.pos
      obtain ⟨a4, c4, rfl⟩ := hrows.slice
      have hr0 := hrows
      obtain ⟨hrb, vs, hvl, hvo, hvj⟩ := hrows
      have hnext : Path R m p0 s0 m (l ++ [t]) := hpath.snoc (by rw [← hq, ← hleft]; exact htx)
      have hsl : Jnl.slots (l ++ [t]) = Jnl.slots l + (t.length + 2) := by rw [Jnl.slots_append]; rfl
      obtain ⟨r, hr⟩ : ∃ r, r = (pl + (t.length + 2)) % m := ⟨_, rfl⟩
      have hr2 : r = (p0 + Jnl.slots (l ++ [t])) % m := by rw [hr, hpl, hsl, Nat.mod_add_mod, Nat.add_assoc]
      have e1 : ((pl : Int) + ((t.length : Int) + 2)).tmod (m : Int) = (r : Int) := by rw [hr, Int.ofNat_tmod]; rfl
      have hrm : r < m := by rw [hr]; exact Nat.mod_lt _ (by omega)
      have hm0 : ¬ (m : Int) = 0 := by omega
      have HR2 := Lib.hid hr2
      have HQ := Lib.hid hq
      have HLE := Lib.hid hleft
      have HSL := Lib.hid hsl
      have HVJ := Lib.hid hvj
      have HVL := Lib.hid hvl
      have HVO := Lib.hid hvo
      have hql : q ≤ 549755813888 + 70000 := by omega
      have hlb : l.length ≤ 70000 := by omega
      have hleft2 : left ≤ 65535 := by omega
      clear htx hpl hq hleft hr hr2 hsl hvj hvl hvo ht1
      go_wp2_with (first
        | (go_at_call 40; refine hrt.mono ?_; rintro e w2 ⟨pv, rfl, b2, hpc, hpb⟩; have hpc1 := hpc t rfl; obtain ⟨pa, pc, rfl⟩ := CacheAt.slice hpc1; have bb2 := below_step hbl (Nat.le_refl _) b2; have r2 := (hr0.old b2).old ((Below.refl w2.heap.size w2).alloc (Nat.le_refl _) (.cells #[.slice pa t.length pc] 58)))
        | (at_builtin; refine wpList_append_one Tryz.underlying33 info_rows rfl (by decide) (by decide) rfl (.tmp 40) (.tmp 42) rfl (.slice a4 l.length c4) l.length vs rfl (own_old (own_old HVO.out b2) ((Below.refl w2.heap.size w2).alloc (Nat.le_refl _) _)) w2.heap.size rfl [.slice pa t.length pc] rfl (by intro u hu; simp at hu; subst hu; rfl) (val_one w2 _ _) (by omega) ?_; intro v6 w6 hO6 hg6 hgo))
      go_roundw
      case rel =>
        have hb3 : Below w2.heap.size w2 (w2.alloc (.cells #[.slice pa t.length pc] 58)) := (Below.refl _ _).alloc (Nat.le_refl _) _
        have hbs := bb2.size
        refine ⟨l ++ [t], hnext, by rw [← HR2.out], ?_, ?_, ?_, ?_⟩
        · rw [List.length_append, List.length_singleton, HQ.out]
          congr 1
        · have h7 := HLE.out
          rw [HSL.out]
          congr 1
          omega
        · refine Rows.grow HVL.out (fun j hj => ⟨((HVJ.out j hj).1.kept fun k e => b2.block k (World.ownsRow.lt (HVJ.out j hj).1 k e).2).kept fun k e => hb3.block k ?_, (HVJ.out j hj).2⟩) (hpc1.kept fun k e => hb3.block k (World.ownsRow.lt hpc1 k e).2) (fun k e => Nat.le_trans hbl.size (hpb k e)) (fun k e => r2.type e) hO6 hg6 (fun k e => ?_)
          · exact (World.ownsRow.lt ((HVJ.out j hj).1.kept (w' := w2) fun k e => b2.block k (World.ownsRow.lt (HVJ.out j hj).1 k e).2) k e).2
          · rcases hgo k e with e' | e'
            · exact hrb k e'
            · simp at e'
              omega
        · exact below_grown (bb2.trans (hb3.mono hbs)) hg6 (by simp; omega) hrb
      case measure => simp [intOf]; omega
set_option maxHeartbeats 1600000 in
theorem scan_bad (ts : List ByteArray) (m : Nat) (X0 : ByteArray) (rv : Value) (w : World) (hv : StrRow w rv ts) (hT : TW w) (hm : ts.length = m + 1) (hX : X0 = ts.getD 0 .empty) (hm2 : m ≤ 1000000) (hx0 : X0.size ≤ 1000000) (h3 : 3 ≤ m) (hok : hOk X0 m = false) :
    Calls Tryz.prog 15 #[rv] w fun e w' => e = .returned (.tuple #[.int .i64 0, .int .i64 0, .slice none 0 0, .bool false]) ∧ Below w.heap.size w w' := by
  have hv0 := hv
  obtain ⟨ra, rcap, rfl, _, _⟩ := hv
  obtain ⟨b, off, rfl, hb, _, c0, hst⟩ := strRow_tail hv0 (by omega)
  rw [← hX] at c0
  rw [hm] at ⊢
  have hrh := readHead_any X0 m w hT hx0 (by omega) (by omega)
  rw [hok] at hrh
  have hlen : ¬ ((m : Int) + 1) < 4 := by omega
  clear hv0 hm hX hst
  generalize hP X0 m = p0 at *
  generalize hS X0 m = s0 at *
  go_enter Tryz.func15, Tryz.ntmps15
  go_wp2
  go_step3
  go_wp2_with (go_at_call 39; refine hrh.mono ?_; rintro e w1 ⟨rfl, b1⟩)
  all_goals
    try rw [Exit.noGoto_ret]
    (try simp only [Exit.inBlock, Exit.then]); refine bodyPost_ret (results_tmp4 rfl _ _ _) rfl ?_
    exact ⟨rfl, b1⟩
end Go.Proofs.YtfcocbgdmmeikaaGreatDoor
/-! ## Package redo: a region is read; transactions are done again. -/
namespace Go.Proofs.YtfcocbgdmmeikaaGreatDoor
open Go.RowKit Dsk

/-- Block q is a row of the texts L. -/
def TxtRow (q : Nat) (L : List ByteArray) (w : World) : Prop := w.heap[q]? = some (.cells (L.map Value.string).toArray 9 (0, 0))
theorem TxtRow.row {q : Nat} {L : List ByteArray} {w : World} (h : TxtRow q L w) (hl : L.length ≤ 1000000) : StrRow w (.slice (some ⟨q, 0, none⟩) L.length L.length) L :=
  ⟨_, _, rfl, by omega, fun _ => ⟨q, 0, rfl, (Array.getElem?_eq_some_iff.1 h).1, fun j hj => by rw [Nat.zero_add, cell_of h]; simp [hj]⟩⟩
/-- What is read of n sectors from base on. -/
def readL (d : Dk) (base n : Nat) : List ByteArray := (List.range n).map fun i => Dsk.read d (base + i)
theorem readL_len (d : Dk) (base n : Nat) : (readL d base n).length = n := by simp [readL]
set_option maxHeartbeats 3200000 in
set_option maxRecDepth 100000 in
theorem readRegion_any (S : Nat → Prop) (p : Nat) (d : Dk) (base n : Nat) (w : World) (h : DiskS S p d w) (hon : d.on = true) (hn : base + n ≤ d.lies.length) :
    Calls Tryz.prog 51 #[.pointer (some ⟨p, 0, none⟩), .int .i64 (base : Int), .int .i64 (n : Int)] w fun e w' => ∃ q, e = .returned (.tuple #[.slice (some ⟨q, 0, none⟩) n n, .int .i64 0]) ∧ TxtRow q (readL d base n) w' ∧ Below w.heap.size w w' := by
  have hmo := h.most
  have hmk := make_strs n (by omega) w
  obtain ⟨O, hO⟩ : ∃ O, O = Obj.cells (List.replicate n (Value.string ⟨#[]⟩)).toArray 9 := ⟨_, rfl⟩
  rw [← hO] at hmk
  have HO := Lib.hid hO
  clear hO
  go_enter Tryz.func51, Tryz.ntmps51
  go_upto_region 2 with fail
  obtain ⟨w1, hw1⟩ : ∃ w1, w1 = w.alloc O := ⟨_, rfl⟩
  obtain ⟨q, hq⟩ : ∃ q, q = w.heap.size := ⟨_, rfl⟩
  have b1 : Below w.heap.size w w1 := by rw [hw1]; exact (Below.refl _ _).alloc (Nat.le_refl _) _
  have hr : TxtRow q (List.replicate n (⟨#[]⟩ : ByteArray)) w1 := by
    rw [hw1, HO.out, hq]
    unfold TxtRow
    rw [List.map_replicate]
    exact heap_alloc_last w _
  have hqw : w.heap.size ≤ q := by omega
  rw [← hw1, ← hq]
  clear hmk HO hw1 hq
  go_upto_region 3 with fail
  go_loopw [16] (fun i wr => ∃ k : Nat, k ≤ n ∧ i = .int .i64 k ∧ ∃ L : List ByteArray, L.length = n ∧ (∀ j, j < k → L.getD j .empty = Dsk.read d (base + j)) ∧ TxtRow q L wr ∧ Below w.heap.size w wr) (fun i _ => n - (intOf i).toNat)
  case atStart => exact ⟨0, Nat.zero_le _, rfl, _, by simp, fun j hj => absurd hj (Nat.not_lt_zero j), hr, b1⟩
  case round =>
    obtain ⟨k, hk, rfl, L, hL, hLj, hI, hbl⟩ := hrel
    clear hr b1
    by_cases hlt : k < n
    · have hrd := readS_any S p d ((base : Int) + (k : Int)) wr (h.old hbl)
      have e1 : readS d ((base : Int) + (k : Int)) = Dsk.read d (base + k) := by
        unfold readS hasB
        rw [hon, show ((base : Int) + (k : Int)) = ((base + k : Nat) : Int) by omega, Int.toNat_natCast, if_pos]
        simp only [Bool.and_eq_true, decide_eq_true_eq]
        exact ⟨⟨by omega, by omega⟩, trivial⟩
      have e2 : readE d ((base : Int) + (k : Int)) = 0 := by
        unfold readE hasB
        rw [hon, if_pos, if_pos rfl]
        simp only [Bool.and_eq_true, decide_eq_true_eq]
        omega
      rw [e1, e2] at hrd
      obtain ⟨X, hX⟩ : ∃ X, X = Dsk.read d (base + k) := ⟨_, rfl⟩
      rw [← hX] at hrd
      have HX := Lib.hid hX
      have HLJ := Lib.hid hLj
      clear e1 e2 hX hLj
      have hql : q < wr.heap.size := (Array.getElem?_eq_some_iff.1 hI).1
      have hks : (k : Int) < (n : Int) := by omega
      go_wp2_with (go_at_call 63; refine hrd.mono ?_; rintro e w2 ⟨rfl, b2⟩; have hI2 : TxtRow q L w2 := (b2.block q hql).trans hI; have eq2 : w2.cell? ⟨q, k, none⟩ = some (.string (L.getD k .empty)) := (by rw [cell_of hI2]; simp [hL, hlt]); have z2 : w2.frozen? ⟨q, k, none⟩ = false := fz_of hI2 k)
      go_roundw
      case rel =>
        refine ⟨k + 1, by omega, by go_num, L.set k X, by rw [List.length_set]; exact hL, fun j hj => ?_, ?_, (below_step hbl (Nat.le_refl _) b2).setCell (p := ⟨q, k, none⟩) hqw _⟩
        · by_cases e : k = j
          · subst e
            rw [List.getD_eq_getElem?_getD, List.getElem?_set_self (by omega)]
            exact HX.out
          · rw [List.getD_eq_getElem?_getD, List.getElem?_set_ne e, ← List.getD_eq_getElem?_getD]
            exact HLJ.out j (by omega)
        · unfold TxtRow
          rw [← strs_set]
          exact heap_set hI2 _
      case measure => simp [intOf]; omega
    · obtain rfl : k = n := by omega
      have e : L = readL d base k := by
        apply List.ext_getElem (by rw [readL_len]; exact hL)
        intro i h1 h2
        have := hLj i (by omega)
        rw [List.getD_eq_getElem?_getD, List.getElem?_eq_getElem h1] at this
        simpa [readL] using this
      rw [e] at hI
      clear e hLj
      go_wp2
      go_ret2
      exact ⟨q, rfl, hI, hbl⟩
theorem cache_puts {cv : Value} {c : List (Nat × ByteArray)} {w : World} (h : CacheAt cv c w) : ∃ g, PutsR w cv (zT c) g ∧ (g < w.heap.size → cv.ownBlock = some g) := by
  by_cases hc : c = []
  · subst hc
    obtain ⟨a, cap, rfl⟩ := h.slice
    refine ⟨w.heap.size, ⟨a, cap, rfl, ?_, fun hn => absurd rfl hn⟩, fun hh => absurd hh (Nat.lt_irrefl _)⟩
    rcases h.2 with ⟨e, _⟩ | ⟨g, cap', cur, e, _, _, h1, h2, _⟩
    · injection e with _ _ e3; subst e3; exact ⟨Nat.zero_le _, by decide⟩
    · injection e with _ _ e3; subst e3; exact ⟨Nat.zero_le _, by unfold maxLen at h2; omega⟩
  · obtain ⟨g, cap, rfl, ho, hl, hk⟩ := h.cells hc
    refine ⟨g, ⟨_, cap, by rw [zT_len], ?_, fun _ => ⟨0, rfl, hl, fun j hj => ?_⟩⟩, fun _ => ho⟩
    · rw [zT_len]
      rcases h.2 with ⟨e, _⟩ | ⟨g', cap', cur, e, _, _, h1, h2, _⟩
      · cases e
      · injection e with _ _ e3; subst e3; exact ⟨h1, by unfold maxLen at h2; omega⟩
    · rw [zT_len] at hj
      rw [zT_get c j hj, Nat.zero_add]
      have := hk j hj
      have e : cAt c j = c[j] := by unfold cAt; rw [List.getD_eq_getElem?_getD, List.getElem?_eq_getElem hj]; rfl
      rw [e] at this
      exact this
theorem wOps_append (a b : Jnl.Txn) : Jnl.wOps (a ++ b) = Jnl.wOps a ++ Jnl.wOps b := List.map_append
/-- What is done of transactions that were found. -/
def rdOps (G : Jnl.Geo) (place seq : Nat) (l : List Jnl.Txn) : List Jnl.O := if l = [] then [] else Jnl.wOps l.flatten ++ ([.f] ++ [.w G.base (hdL place seq)])
set_option maxHeartbeats 3200000 in
set_option maxRecDepth 100000 in
theorem redo_any (S : Nat → Prop) (l p : Nat) (G : Jnl.Geo) (place seq used B : Nat) (x : Dk × Bool) (v : Value) (tl : List Jnl.Txn) (w wS : World) (h : LogS S l p G place seq used x w) (hu : Up S w) (hS0 : ¬ S 0) (hT : TW w) (hv : Rows B v tl wS) (hbS : Below wS.heap.size wS w) (hB : ∀ k, B ≤ k → k < wS.heap.size → ¬ S k)
    (hN : x.1.lies.length = G.N) (hp : place ≤ 65535) (hq : seq ≤ 1099511627776) (ht : ∀ t ∈ tl, ∀ y ∈ t, y.1 < G.N ∧ y.2.size = 256) (hlen : tl.length ≤ 100000) (hb : Bd x (tl.flatten.length + 2)) :
    Calls Tryz.prog 52 #[.pointer (some ⟨l, 0, none⟩), v] w fun e w' => e = .returned (.tuple #[]) ∧ LogS S l p G place seq used (gos x (rdOps G place seq tl)) w' ∧ FrL l S w w' := by
  obtain ⟨a, cap, rfl⟩ := hv.slice
  obtain ⟨hvb, vs, hvl, hvo0, hvj0⟩ := hv
  have hvo := own_old hvo0 hbS
  have hvj : ∀ (j : Nat) (h : j < tl.length), CacheAt (vs.getD j undef) tl[j] w ∧ ∀ k, (vs.getD j undef).ownBlock = some k → B ≤ k ∧ k < wS.heap.size := fun j hj => by
    obtain ⟨q1, q2⟩ := hvj0 j hj
    exact ⟨q1.kept fun k e => hbS.block k (World.ownsRow.lt q1 k e).2, fun k e => ⟨q2 k e, (World.ownsRow.lt q1 k e).2⟩⟩
  have hsS := hbS.size
  clear hvj0
  by_cases h0 : tl = []
  · subst h0
    have e0 : rdOps G place seq [] = [] := rfl
    rw [e0, gos_nil]
    go_enter Tryz.func52, Tryz.ntmps52
    go_wp2
    first | go_end0 | refine bodyPost_ret (results_none rfl _ _ _) rfl ?_
    exact ⟨rfl, h, FrL.refl _ _ _⟩
  · have hl0 : 0 < tl.length := List.length_pos_iff.2 h0
    have hne : ¬ (tl.length : Int) = 0 := by omega
    have hneb : ((tl.length : Int) == 0) = false := beq_false_of_ne hne
    have e0 : rdOps G place seq tl = Jnl.wOps tl.flatten ++ ([.f] ++ [.w G.base (hdL place seq)]) := if_neg h0
    rw [e0, gos_append, gos_append]
    clear e0
    obtain ⟨g, rfl, hgl0⟩ : ∃ g, a = some ⟨g, 0, none⟩ ∧ g < wS.heap.size := by
      rcases hvo0.2 with ⟨e, e2⟩ | ⟨g, cap', cur, e, _, hg, _⟩
      · omega
      · injection e with e1 _ _
        exact ⟨g, e1, (Array.getElem?_eq_some_iff.1 hg).1⟩
    have hBg : B ≤ g := hvb g rfl
    have hgl : g < w.heap.size := Nat.lt_of_lt_of_le hgl0 hsS
    have hgS : ¬ S g := hB g hBg hgl0
    have hcell : ∀ k, k < tl.length → w.cell? ⟨g, 0 + k, none⟩ = some (vs.getD k undef) := fun k hk => by
      have := World.ownsRow.cells hvo (g := g) rfl k (vs.getD k undef) (by rw [List.getD_eq_getElem?_getD, List.getElem?_eq_getElem (by omega)]; rfl)
      rw [Addr.add_mid, Nat.zero_add] at this
      rw [Nat.zero_add]; exact this
    have hB1 : Bd (gos x (Jnl.wOps tl.flatten)) 2 := Bd.gos (by rw [Jnl.wOps, List.length_map]; exact hb)
    have hN1 : (gos x (Jnl.wOps tl.flatten)).1.lies.length = G.N := (gos_len _ _).trans hN
    have hwa : ∀ k, (hk : k < tl.length) → ∀ u, LogS S l p G place seq used (gos x (Jnl.wOps (tl.take k).flatten)) u → FrL l S w u → Calls Tryz.prog 83 #[.pointer (some ⟨l, 0, none⟩), vs.getD k undef] u fun e w' => e = .returned (.tuple #[]) ∧ LogS S l p G place seq used (gos x (Jnl.wOps (tl.take (k + 1)).flatten)) w' ∧ FrL l S u w' := by
      intro k hk u hs hf
      obtain ⟨c1, c2⟩ := hvj k hk
      have hfl : (tl.take (k + 1)).flatten = (tl.take k).flatten ++ tl[k] := by rw [List.take_succ_eq_append_getElem hk, List.flatten_append]; simp
      have hl1 : (tl.take (k + 1)).flatten.length ≤ tl.flatten.length := by
        conv => rhs; rw [← List.take_append_drop (k + 1) tl, List.flatten_append, List.length_append]
        omega
      rw [hfl, List.length_append] at hl1
      rw [hfl, wOps_append, gos_append]
      have c3 : CacheAt (vs.getD k undef) tl[k] u := c1.kept fun j e => hf.fr.block j (World.ownsRow.lt c1 j e).2 (hB j (c2 j e).1 (c2 j e).2)
      obtain ⟨g2, hp2, ho2⟩ := cache_puts c3
      refine writeAll_any S l p G place seq used _ _ tl[k] g2 u hs (hu.mono hf.size) hp2 (fun hlt => ?_) (fun y hy => by rw [gos_len, hN]; exact ht _ (List.getElem_mem hk) y hy) (Bd.gos (by rw [Jnl.wOps, List.length_map]; exact hb.mono (by omega)))
      have := ho2 hlt
      exact hB g2 (c2 g2 this).1 (c2 g2 this).2
    have hsh : ∀ k, k < tl.length → ∃ pa n pc, vs.getD k undef = .slice pa n pc := fun k hk => by
      obtain ⟨pa, pc, e⟩ := (hvj k hk).1.slice
      exact ⟨pa, _, pc, e⟩
    have HSH := Lib.hid hsh
    have HWA := Lib.hid hwa
    have HCELL := Lib.hid hcell
    have hpf := fun u (h' : LogS S l p G place seq used (gos x (Jnl.wOps tl.flatten)) u) (hu' : Up S u) => pflush_any S l p _ _ _ u h' hu' (hB1.mono (by omega))
    obtain ⟨x1, hx1⟩ : ∃ x1, x1 = gos x (Jnl.wOps tl.flatten) := ⟨_, rfl⟩
    rw [← hx1] at hpf hB1 hN1 ⊢
    have B2 : Bd (gos x1 [.f]) 1 := Bd.gos (show Bd x1 (1 + 1) from hB1)
    have N2 : (gos x1 [.f]).1.lies.length = G.N := (gos_len _ _).trans hN1
    generalize gos x1 [.f] = x2 at *
    have hwh := fun u (h' : LogS S l p G place seq used x2 u) (hu' : Up S u) (hT' : TW u) => writeHead_any S l p G place seq used x2 u h' hu' hS0 hT' N2 hp hq B2
    have HX1 := Lib.hid hx1
    have HPF := Lib.hid hpf
    have HWH := Lib.hid hwh
    clear hsh hwa hcell hpf hwh hx1 hvj hvo hvo0 hvl hvb hB ht hB1 hN1 B2 N2 h0
    go_enter Tryz.func52, Tryz.ntmps52
    go_upto_region 2 with fail
    go_loopw [11] (fun i wr => ∃ k : Nat, k ≤ tl.length ∧ i = .int .i64 k ∧ LogS S l p G place seq used (gos x (Jnl.wOps (tl.take k).flatten)) wr ∧ FrL l S w wr) (fun i _ => tl.length - (intOf i).toNat)
    case atStart => exact ⟨0, Nat.zero_le _, rfl, by rw [show Jnl.wOps (tl.take 0).flatten = [] from rfl, gos_nil]; exact h, FrL.refl _ _ _⟩
    case round =>
      obtain ⟨k, hk, rfl, hs, hf⟩ := hrel
      clear h
      by_cases hlt : k < tl.length
      · have ck := (hf.fr.cell hgl hgS).trans (HCELL.out k hlt)
        have hwk := HWA.out k hlt wr hs hf
        obtain ⟨pa, n', pc, hvk⟩ := HSH.out k hlt
        rw [hvk] at ck hwk
        clear hvk
        rw [Nat.zero_add] at ck
        have hk1 : (k : Int) < (tl.length : Int) := by omega
        go_wp2_with (go_at_call 83; refine hwk.mono ?_; rintro e w3 ⟨rfl, h3, f3⟩)
        go_roundw
        case rel => exact ⟨k + 1, by omega, by go_num, h3, hf.trans f3⟩
        case measure => simp [intOf]; omega
      · obtain rfl : k = tl.length := by omega
        rw [List.take_length, ← HX1.out] at hs
        have q1 := HPF.out wr hs (hu.mono hf.size)
        go_upto_region 7 with (go_at_call 50; refine q1.mono ?_; rintro e w4 ⟨rfl, h4, f4⟩)
        have ff := hf.trans f4
        have q2 := HWH.out w4 h4 (hu.mono ff.size) (hT.fr ff.fr hS0)
        go_wp2_with (go_at_call 84; refine q2.mono ?_; rintro e w5 ⟨rfl, h5, f5⟩)
        go_end0
        exact ⟨rfl, h5, ff.trans f5⟩
end Go.Proofs.YtfcocbgdmmeikaaGreatDoor
