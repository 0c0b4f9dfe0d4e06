/-
  OctetReads: whatever is asked (up to 40 calls of Long, Num, Text, List with any bounds), of any bytes (cut to 400), a scanner tells what the document's own tells, has as much left, is spoilt with it, and ends with it. For every input, no condition.
-/
import Derived.Test.YtnhpebhmihagbaaOctRList
import Derived.Test.YtnhpebhmihagbaaOctPutRead
import Derived.Test.YtnhpebhmihagbaaOctIntRow
namespace Go.Proofs.Ytnhpebhmihagbaa.octetReads
open Go.ChangeShapes Go.WideShapes Go.ChangeAt Go.RowKit

/-- A callee that turns nothing, inside a region that draws its order. -/
theorem quiet_same {P : Program} {f : FuncId} {args : Array Value} {w : World} {n : Nat} {v : Value}
    (h : Calls P f args (w.drewN n) fun e w' => e = .returned v ∧ w.drewN n = w') : Calls P f args (w.drewN n) fun e w'' => e = .returned v ∧ ∃ m, w'' = w.drewN m :=
  h.mono fun _ _ ⟨he, hm⟩ => ⟨he, n, hm.symm⟩

theorem tmod4 (c : Int) : c.tmod 4 = 0 ∨ c.tmod 4 = 1 ∨ c.tmod 4 = 2 ∨ c.tmod 4 = 3 ∨ c.tmod 4 = -1 ∨ c.tmod 4 = -2 ∨ c.tmod 4 = -3 := by
  have h1 := Int.tmod_lt_of_pos c (show (0 : Int) < 4 by decide)
  have h2 : -4 < c.tmod 4 := by
    have := Int.tmod_lt_of_pos (-c) (show (0 : Int) < 4 by decide)
    rw [Int.neg_tmod] at this
    omega
  omega

set_option maxHeartbeats 6400000 in
set_option maxRecDepth 100000 in
theorem walk_some (s : ByteArray) (b off cap : Nat) (zs : List Int) (w : World) (_hs : s.size ≤ maxLen) (_hzl : zs.length ≤ 9223372036854775807) (hzb : ∀ j, -9223372036854775808 ≤ zs.getD j 0 ∧ zs.getD j 0 ≤ 9223372036854775807) (hb : b < w.heap.size)
    (hc : ∀ j, j < zs.length → w.cell? ⟨b, off + j, none⟩ = some (.int .i64 (zs.getD j 0))) :
    Calls Try.prog 4 #[.string s, .slice (some ⟨b, off, none⟩) zs.length cap] w fun e w' => e = .returned (.bool true) ∧ Below w.heap.size w w' := by
  obtain ⟨S, hS⟩ : ∃ S, S = shortB s 400 := ⟨_, rfl⟩
  have hSs : S.size ≤ 400 := by rw [hS]; exact shortB_size s 400
  have hsh := fun w => short_any s 400 w
  rw [← hS] at hsh
  have HSh := Lib.hid hsh
  have HC := Lib.hid hc
  have HZ := Lib.hid hzb
  clear hsh hc hzb hS
  go_enter Try.func4, Try.ntmps4
  go_wp2_with (first
    | (go_at_call 11; refine (awake_any _).mono ?_; rintro e w1 ⟨rfl, b1⟩)
    | (go_at_call 12; refine (HSh.out _).mono ?_; rintro e w2 ⟨rfl, rfl⟩)
    | (go_at_call 21; refine (read_str _ _ (by unfold maxLen; omega)).mono ?_; rintro e w3 ⟨rfl, h3, b3⟩))
  have hx := b1.size
  have hxy := h3.lt
  have X3 : Hid (Scn w1.heap.size (some S.data.toList) (w3.alloc (.cells #[.string S, .int .i64 0, .bool false] 38))) := h3.old ((Below.refl w3.heap.size w3).alloc (Nat.le_refl _) _) hxy
  have Y3 := Lib.hid (RScn.alloc S w3)
  have B3 : Below w.heap.size w (w3.alloc (.cells #[.string S, .int .i64 0, .bool false] 38)) := (below_step b1 (Nat.le_refl _) b3).alloc (Nat.le_trans hx b3.size) _
  clear h3 b1 b3 HSh
  go_loopw [8] (fun i wr => ∃ (k : Nat) (st : Option (List UInt8)), k ≤ zs.length ∧ k ≤ 40 ∧ i = .int .i64 k ∧ Scn w1.heap.size st wr ∧ RScn w3.heap.size S st wr ∧ Below w.heap.size w wr)
    (fun i _ => zs.length - (intOf i).toNat)
  case atStart => exact ⟨0, _, Nat.zero_le _, Nat.zero_le _, rfl, X3.out, Y3.out, B3⟩
  case round =>
    obtain ⟨k, st, hk, hk40, rfl, hX, hY, hbl⟩ := hrel
    clear X3 Y3 B3
    by_cases hlt : k < zs.length ∧ k < 40
    · obtain ⟨hlt, h40⟩ := hlt
      obtain ⟨c, hcv⟩ : ∃ c, c = zs.getD k 0 := ⟨_, rfl⟩
      have hcx : wr.cell? ⟨b, off + k, none⟩ = some (.int .i64 c) := by rw [hcv]; exact (hbl.cell (by exact hb)).trans (HC.out k hlt)
      have hcb : -9223372036854775808 ≤ c ∧ c ≤ 9223372036854775807 := by rw [hcv]; exact HZ.out k
      obtain ⟨hc1, hc2⟩ := hcb
      clear hcv
      by_cases hm : k + 1 < zs.length
      · obtain ⟨d, hdv⟩ : ∃ d, d = zs.getD (k + 1) 0 := ⟨_, rfl⟩
        have hdx : wr.cell? ⟨b, off + (k + 1), none⟩ = some (.int .i64 d) := by rw [hdv]; exact (hbl.cell (by exact hb)).trans (HC.out (k + 1) hm)
        have hdb : -9223372036854775808 ≤ d ∧ d ≤ 9223372036854775807 := by rw [hdv]; exact HZ.out (k + 1)
        obtain ⟨hd1, hd2⟩ := hdb
        clear hdv
        rcases tmod4 c with hr | hr | hr | hr | hr | hr | hr
        · go_wp2_with (first
            | (go_at_call 22; refine (long_any _ _ _ hX).mono ?_; rintro e w4 ⟨rfl, hX4, oX⟩; have hY4 := hY.kept oX (by omega))
            | (go_at_call 23; refine (rlong_any _ _ _ _ (by omega) hY4).mono ?_; rintro e w5 ⟨rfl, hY5, oY⟩; have hX5 := hX4.kept oY (by omega)))
          have B5 : Below w.heap.size w w5 := (hbl.trans (oX.below hx hbl.size)).trans (oY.below (by omega) (by have := oX.size; have := hbl.size; omega))
          generalize longS st = st' at hX5 hY5
          have c2 := hY5.c2
          have hsb : (st'.isSome == st'.isNone) = false := by cases st' <;> rfl
          clear hX hY hX4 hY4 oX oY hbl
          go_quiet (first | (go_at_call 31; exact quiet_same (left_any _ _ _ hX5)) | (go_at_call 32; exact Calls.quiet_of (rleft_any _ _ _ _ (by omega) hY5)) | (go_at_call 33; exact quiet_same (sound_any _ _ _ hX5)) | (go_at_call 34; exact quiet_same (end_any _ _ _ hX5)) | (go_at_call 35; exact Calls.quiet_of (rend_any _ _ _ _ (by omega) hY5)))
          go_wp2
          go_roundw
          case rel => exact ⟨k + 1, st', by omega, by omega, by go_num, hX5, hY5, below_drewN B5 _⟩
          case measure => simp [intOf]; omega
        · go_wp2_with (first
            | (go_at_call 24; refine (num_any _ _ d _ hX (by omega) (by omega)).mono ?_; rintro e w4 ⟨rfl, hX4, oX⟩; have hY4 := hY.kept oX (by omega))
            | (go_at_call 25; refine (rnum_any _ _ _ d _ (by omega) hY4 (by omega) (by omega)).mono ?_; rintro e w5 ⟨rfl, hY5, oY⟩; have hX5 := hX4.kept oY (by omega)))
          have B5 : Below w.heap.size w w5 := (hbl.trans (oX.below hx hbl.size)).trans (oY.below (by omega) (by have := oX.size; have := hbl.size; omega))
          generalize numS st d = st' at hX5 hY5
          have c2 := hY5.c2
          have hsb : (st'.isSome == st'.isNone) = false := by cases st' <;> rfl
          clear hX hY hX4 hY4 oX oY hbl
          go_quiet (first | (go_at_call 31; exact quiet_same (left_any _ _ _ hX5)) | (go_at_call 32; exact Calls.quiet_of (rleft_any _ _ _ _ (by omega) hY5)) | (go_at_call 33; exact quiet_same (sound_any _ _ _ hX5)) | (go_at_call 34; exact quiet_same (end_any _ _ _ hX5)) | (go_at_call 35; exact Calls.quiet_of (rend_any _ _ _ _ (by omega) hY5)))
          go_wp2
          go_roundw
          case rel => exact ⟨k + 1, st', by omega, by omega, by go_num, hX5, hY5, below_drewN B5 _⟩
          case measure => simp [intOf]; omega
        · go_wp2_with (first
            | (go_at_call 26; refine (text_any _ _ d _ hX (by omega) (by omega)).mono ?_; rintro e w4 ⟨rfl, hX4, oX⟩; have hY4 := hY.kept oX (by omega))
            | (go_at_call 27; refine (rtext_any _ _ _ d _ (by omega) hY4 (by omega) (by omega)).mono ?_; rintro e w5 ⟨rfl, hY5, oY⟩; have hX5 := hX4.kept oY (by omega)))
          have B5 : Below w.heap.size w w5 := (hbl.trans (oX.below hx hbl.size)).trans (oY.below (by omega) (by have := oX.size; have := hbl.size; omega))
          generalize textS st d = st' at hX5 hY5
          have c2 := hY5.c2
          have hsb : (st'.isSome == st'.isNone) = false := by cases st' <;> rfl
          clear hX hY hX4 hY4 oX oY hbl
          go_quiet (first | (go_at_call 31; exact quiet_same (left_any _ _ _ hX5)) | (go_at_call 32; exact Calls.quiet_of (rleft_any _ _ _ _ (by omega) hY5)) | (go_at_call 33; exact quiet_same (sound_any _ _ _ hX5)) | (go_at_call 34; exact quiet_same (end_any _ _ _ hX5)) | (go_at_call 35; exact Calls.quiet_of (rend_any _ _ _ _ (by omega) hY5)))
          go_wp2
          go_roundw
          case rel => exact ⟨k + 1, st', by omega, by omega, by go_num, hX5, hY5, below_drewN B5 _⟩
          case measure => simp [intOf]; omega
        · have hYl := hY.lt
          have hLen := hY.len
          go_wp2_with (first
            | (go_at_call 29; refine (list_any _ _ d _ hX (by omega) (by omega) (by omega)).mono ?_; rintro e w4 ⟨v4, rfl, r4, hX4, oX⟩; have hY4 := hY.kept oX (by omega))
            | (go_at_call 30; refine (rlist_any _ _ _ d _ (by omega) hY4 (by omega) (by omega)).mono ?_; rintro e w6 ⟨v6, rfl, r6, hY6, oY⟩; have hX6 := hX4.kept oY (by omega); have r4' := r4.only oY hYl)
            | (go_at_call 28; refine (same_any _ _ _ _ _ r4'.row r6).mono ?_; rintro e w5 ⟨rfl, b5⟩; have hX5 := hX6.old b5 hX6.lt; have hY5 := hY6.old b5 hY6.lt))
          have B5 : Below w.heap.size w w5 := below_step ((hbl.trans (oX.below hx hbl.size)).trans (oY.below (by omega) (by have := oX.size; have := hbl.size; omega))) (Nat.le_refl _) b5
          generalize (listR st d).2 = st' at hX5 hY5
          clear r4 r4' r6 hX6 hY6 b5 hYl hLen
          have c2 := hY5.c2
          have hsb : (st'.isSome == st'.isNone) = false := by cases st' <;> rfl
          clear hX hY hX4 hY4 oX oY hbl
          go_quiet (first | (go_at_call 31; exact quiet_same (left_any _ _ _ hX5)) | (go_at_call 32; exact Calls.quiet_of (rleft_any _ _ _ _ (by omega) hY5)) | (go_at_call 33; exact quiet_same (sound_any _ _ _ hX5)) | (go_at_call 34; exact quiet_same (end_any _ _ _ hX5)) | (go_at_call 35; exact Calls.quiet_of (rend_any _ _ _ _ (by omega) hY5)))
          go_wp2
          go_roundw
          case rel => exact ⟨k + 1, st', by omega, by omega, by go_num, hX5, hY5, below_drewN B5 _⟩
          case measure => simp [intOf]; omega
        · go_wp2_with (first
            | (go_at_call 24; refine (num_any _ _ d _ hX (by omega) (by omega)).mono ?_; rintro e w4 ⟨rfl, hX4, oX⟩; have hY4 := hY.kept oX (by omega))
            | (go_at_call 25; refine (rnum_any _ _ _ d _ (by omega) hY4 (by omega) (by omega)).mono ?_; rintro e w5 ⟨rfl, hY5, oY⟩; have hX5 := hX4.kept oY (by omega)))
          have B5 : Below w.heap.size w w5 := (hbl.trans (oX.below hx hbl.size)).trans (oY.below (by omega) (by have := oX.size; have := hbl.size; omega))
          generalize numS st d = st' at hX5 hY5
          have c2 := hY5.c2
          have hsb : (st'.isSome == st'.isNone) = false := by cases st' <;> rfl
          clear hX hY hX4 hY4 oX oY hbl
          go_quiet (first | (go_at_call 31; exact quiet_same (left_any _ _ _ hX5)) | (go_at_call 32; exact Calls.quiet_of (rleft_any _ _ _ _ (by omega) hY5)) | (go_at_call 33; exact quiet_same (sound_any _ _ _ hX5)) | (go_at_call 34; exact quiet_same (end_any _ _ _ hX5)) | (go_at_call 35; exact Calls.quiet_of (rend_any _ _ _ _ (by omega) hY5)))
          go_wp2
          go_roundw
          case rel => exact ⟨k + 1, st', by omega, by omega, by go_num, hX5, hY5, below_drewN B5 _⟩
          case measure => simp [intOf]; omega
        · go_wp2_with (first
            | (go_at_call 26; refine (text_any _ _ d _ hX (by omega) (by omega)).mono ?_; rintro e w4 ⟨rfl, hX4, oX⟩; have hY4 := hY.kept oX (by omega))
            | (go_at_call 27; refine (rtext_any _ _ _ d _ (by omega) hY4 (by omega) (by omega)).mono ?_; rintro e w5 ⟨rfl, hY5, oY⟩; have hX5 := hX4.kept oY (by omega)))
          have B5 : Below w.heap.size w w5 := (hbl.trans (oX.below hx hbl.size)).trans (oY.below (by omega) (by have := oX.size; have := hbl.size; omega))
          generalize textS st d = st' at hX5 hY5
          have c2 := hY5.c2
          have hsb : (st'.isSome == st'.isNone) = false := by cases st' <;> rfl
          clear hX hY hX4 hY4 oX oY hbl
          go_quiet (first | (go_at_call 31; exact quiet_same (left_any _ _ _ hX5)) | (go_at_call 32; exact Calls.quiet_of (rleft_any _ _ _ _ (by omega) hY5)) | (go_at_call 33; exact quiet_same (sound_any _ _ _ hX5)) | (go_at_call 34; exact quiet_same (end_any _ _ _ hX5)) | (go_at_call 35; exact Calls.quiet_of (rend_any _ _ _ _ (by omega) hY5)))
          go_wp2
          go_roundw
          case rel => exact ⟨k + 1, st', by omega, by omega, by go_num, hX5, hY5, below_drewN B5 _⟩
          case measure => simp [intOf]; omega
        · have hYl := hY.lt
          have hLen := hY.len
          go_wp2_with (first
            | (go_at_call 29; refine (list_any _ _ d _ hX (by omega) (by omega) (by omega)).mono ?_; rintro e w4 ⟨v4, rfl, r4, hX4, oX⟩; have hY4 := hY.kept oX (by omega))
            | (go_at_call 30; refine (rlist_any _ _ _ d _ (by omega) hY4 (by omega) (by omega)).mono ?_; rintro e w6 ⟨v6, rfl, r6, hY6, oY⟩; have hX6 := hX4.kept oY (by omega); have r4' := r4.only oY hYl)
            | (go_at_call 28; refine (same_any _ _ _ _ _ r4'.row r6).mono ?_; rintro e w5 ⟨rfl, b5⟩; have hX5 := hX6.old b5 hX6.lt; have hY5 := hY6.old b5 hY6.lt))
          have B5 : Below w.heap.size w w5 := below_step ((hbl.trans (oX.below hx hbl.size)).trans (oY.below (by omega) (by have := oX.size; have := hbl.size; omega))) (Nat.le_refl _) b5
          generalize (listR st d).2 = st' at hX5 hY5
          clear r4 r4' r6 hX6 hY6 b5 hYl hLen
          have c2 := hY5.c2
          have hsb : (st'.isSome == st'.isNone) = false := by cases st' <;> rfl
          clear hX hY hX4 hY4 oX oY hbl
          go_quiet (first | (go_at_call 31; exact quiet_same (left_any _ _ _ hX5)) | (go_at_call 32; exact Calls.quiet_of (rleft_any _ _ _ _ (by omega) hY5)) | (go_at_call 33; exact quiet_same (sound_any _ _ _ hX5)) | (go_at_call 34; exact quiet_same (end_any _ _ _ hX5)) | (go_at_call 35; exact Calls.quiet_of (rend_any _ _ _ _ (by omega) hY5)))
          go_wp2
          go_roundw
          case rel => exact ⟨k + 1, st', by omega, by omega, by go_num, hX5, hY5, below_drewN B5 _⟩
          case measure => simp [intOf]; omega
      · rcases tmod4 c with hr | hr | hr | hr | hr | hr | hr
        · go_wp2_with (first
            | (go_at_call 22; refine (long_any _ _ _ hX).mono ?_; rintro e w4 ⟨rfl, hX4, oX⟩; have hY4 := hY.kept oX (by omega))
            | (go_at_call 23; refine (rlong_any _ _ _ _ (by omega) hY4).mono ?_; rintro e w5 ⟨rfl, hY5, oY⟩; have hX5 := hX4.kept oY (by omega)))
          have B5 : Below w.heap.size w w5 := (hbl.trans (oX.below hx hbl.size)).trans (oY.below (by omega) (by have := oX.size; have := hbl.size; omega))
          generalize longS st = st' at hX5 hY5
          have c2 := hY5.c2
          have hsb : (st'.isSome == st'.isNone) = false := by cases st' <;> rfl
          clear hX hY hX4 hY4 oX oY hbl
          go_quiet (first | (go_at_call 31; exact quiet_same (left_any _ _ _ hX5)) | (go_at_call 32; exact Calls.quiet_of (rleft_any _ _ _ _ (by omega) hY5)) | (go_at_call 33; exact quiet_same (sound_any _ _ _ hX5)) | (go_at_call 34; exact quiet_same (end_any _ _ _ hX5)) | (go_at_call 35; exact Calls.quiet_of (rend_any _ _ _ _ (by omega) hY5)))
          go_wp2
          go_roundw
          case rel => exact ⟨k + 1, st', by omega, by omega, by go_num, hX5, hY5, below_drewN B5 _⟩
          case measure => simp [intOf]; omega
        · go_wp2_with (first
            | (go_at_call 24; refine (num_any _ _ 1125899906842624 _ hX (by omega) (by omega)).mono ?_; rintro e w4 ⟨rfl, hX4, oX⟩; have hY4 := hY.kept oX (by omega))
            | (go_at_call 25; refine (rnum_any _ _ _ 1125899906842624 _ (by omega) hY4 (by omega) (by omega)).mono ?_; rintro e w5 ⟨rfl, hY5, oY⟩; have hX5 := hX4.kept oY (by omega)))
          have B5 : Below w.heap.size w w5 := (hbl.trans (oX.below hx hbl.size)).trans (oY.below (by omega) (by have := oX.size; have := hbl.size; omega))
          generalize numS st 1125899906842624 = st' at hX5 hY5
          have c2 := hY5.c2
          have hsb : (st'.isSome == st'.isNone) = false := by cases st' <;> rfl
          clear hX hY hX4 hY4 oX oY hbl
          go_quiet (first | (go_at_call 31; exact quiet_same (left_any _ _ _ hX5)) | (go_at_call 32; exact Calls.quiet_of (rleft_any _ _ _ _ (by omega) hY5)) | (go_at_call 33; exact quiet_same (sound_any _ _ _ hX5)) | (go_at_call 34; exact quiet_same (end_any _ _ _ hX5)) | (go_at_call 35; exact Calls.quiet_of (rend_any _ _ _ _ (by omega) hY5)))
          go_wp2
          go_roundw
          case rel => exact ⟨k + 1, st', by omega, by omega, by go_num, hX5, hY5, below_drewN B5 _⟩
          case measure => simp [intOf]; omega
        · go_wp2_with (first
            | (go_at_call 26; refine (text_any _ _ 1125899906842624 _ hX (by omega) (by omega)).mono ?_; rintro e w4 ⟨rfl, hX4, oX⟩; have hY4 := hY.kept oX (by omega))
            | (go_at_call 27; refine (rtext_any _ _ _ 1125899906842624 _ (by omega) hY4 (by omega) (by omega)).mono ?_; rintro e w5 ⟨rfl, hY5, oY⟩; have hX5 := hX4.kept oY (by omega)))
          have B5 : Below w.heap.size w w5 := (hbl.trans (oX.below hx hbl.size)).trans (oY.below (by omega) (by have := oX.size; have := hbl.size; omega))
          generalize textS st 1125899906842624 = st' at hX5 hY5
          have c2 := hY5.c2
          have hsb : (st'.isSome == st'.isNone) = false := by cases st' <;> rfl
          clear hX hY hX4 hY4 oX oY hbl
          go_quiet (first | (go_at_call 31; exact quiet_same (left_any _ _ _ hX5)) | (go_at_call 32; exact Calls.quiet_of (rleft_any _ _ _ _ (by omega) hY5)) | (go_at_call 33; exact quiet_same (sound_any _ _ _ hX5)) | (go_at_call 34; exact quiet_same (end_any _ _ _ hX5)) | (go_at_call 35; exact Calls.quiet_of (rend_any _ _ _ _ (by omega) hY5)))
          go_wp2
          go_roundw
          case rel => exact ⟨k + 1, st', by omega, by omega, by go_num, hX5, hY5, below_drewN B5 _⟩
          case measure => simp [intOf]; omega
        · have hYl := hY.lt
          have hLen := hY.len
          go_wp2_with (first
            | (go_at_call 29; refine (list_any _ _ 1125899906842624 _ hX (by omega) (by omega) (by omega)).mono ?_; rintro e w4 ⟨v4, rfl, r4, hX4, oX⟩; have hY4 := hY.kept oX (by omega))
            | (go_at_call 30; refine (rlist_any _ _ _ 1125899906842624 _ (by omega) hY4 (by omega) (by omega)).mono ?_; rintro e w6 ⟨v6, rfl, r6, hY6, oY⟩; have hX6 := hX4.kept oY (by omega); have r4' := r4.only oY hYl)
            | (go_at_call 28; refine (same_any _ _ _ _ _ r4'.row r6).mono ?_; rintro e w5 ⟨rfl, b5⟩; have hX5 := hX6.old b5 hX6.lt; have hY5 := hY6.old b5 hY6.lt))
          have B5 : Below w.heap.size w w5 := below_step ((hbl.trans (oX.below hx hbl.size)).trans (oY.below (by omega) (by have := oX.size; have := hbl.size; omega))) (Nat.le_refl _) b5
          generalize (listR st 1125899906842624).2 = st' at hX5 hY5
          clear r4 r4' r6 hX6 hY6 b5 hYl hLen
          have c2 := hY5.c2
          have hsb : (st'.isSome == st'.isNone) = false := by cases st' <;> rfl
          clear hX hY hX4 hY4 oX oY hbl
          go_quiet (first | (go_at_call 31; exact quiet_same (left_any _ _ _ hX5)) | (go_at_call 32; exact Calls.quiet_of (rleft_any _ _ _ _ (by omega) hY5)) | (go_at_call 33; exact quiet_same (sound_any _ _ _ hX5)) | (go_at_call 34; exact quiet_same (end_any _ _ _ hX5)) | (go_at_call 35; exact Calls.quiet_of (rend_any _ _ _ _ (by omega) hY5)))
          go_wp2
          go_roundw
          case rel => exact ⟨k + 1, st', by omega, by omega, by go_num, hX5, hY5, below_drewN B5 _⟩
          case measure => simp [intOf]; omega
        · go_wp2_with (first
            | (go_at_call 24; refine (num_any _ _ 1125899906842624 _ hX (by omega) (by omega)).mono ?_; rintro e w4 ⟨rfl, hX4, oX⟩; have hY4 := hY.kept oX (by omega))
            | (go_at_call 25; refine (rnum_any _ _ _ 1125899906842624 _ (by omega) hY4 (by omega) (by omega)).mono ?_; rintro e w5 ⟨rfl, hY5, oY⟩; have hX5 := hX4.kept oY (by omega)))
          have B5 : Below w.heap.size w w5 := (hbl.trans (oX.below hx hbl.size)).trans (oY.below (by omega) (by have := oX.size; have := hbl.size; omega))
          generalize numS st 1125899906842624 = st' at hX5 hY5
          have c2 := hY5.c2
          have hsb : (st'.isSome == st'.isNone) = false := by cases st' <;> rfl
          clear hX hY hX4 hY4 oX oY hbl
          go_quiet (first | (go_at_call 31; exact quiet_same (left_any _ _ _ hX5)) | (go_at_call 32; exact Calls.quiet_of (rleft_any _ _ _ _ (by omega) hY5)) | (go_at_call 33; exact quiet_same (sound_any _ _ _ hX5)) | (go_at_call 34; exact quiet_same (end_any _ _ _ hX5)) | (go_at_call 35; exact Calls.quiet_of (rend_any _ _ _ _ (by omega) hY5)))
          go_wp2
          go_roundw
          case rel => exact ⟨k + 1, st', by omega, by omega, by go_num, hX5, hY5, below_drewN B5 _⟩
          case measure => simp [intOf]; omega
        · go_wp2_with (first
            | (go_at_call 26; refine (text_any _ _ 1125899906842624 _ hX (by omega) (by omega)).mono ?_; rintro e w4 ⟨rfl, hX4, oX⟩; have hY4 := hY.kept oX (by omega))
            | (go_at_call 27; refine (rtext_any _ _ _ 1125899906842624 _ (by omega) hY4 (by omega) (by omega)).mono ?_; rintro e w5 ⟨rfl, hY5, oY⟩; have hX5 := hX4.kept oY (by omega)))
          have B5 : Below w.heap.size w w5 := (hbl.trans (oX.below hx hbl.size)).trans (oY.below (by omega) (by have := oX.size; have := hbl.size; omega))
          generalize textS st 1125899906842624 = st' at hX5 hY5
          have c2 := hY5.c2
          have hsb : (st'.isSome == st'.isNone) = false := by cases st' <;> rfl
          clear hX hY hX4 hY4 oX oY hbl
          go_quiet (first | (go_at_call 31; exact quiet_same (left_any _ _ _ hX5)) | (go_at_call 32; exact Calls.quiet_of (rleft_any _ _ _ _ (by omega) hY5)) | (go_at_call 33; exact quiet_same (sound_any _ _ _ hX5)) | (go_at_call 34; exact quiet_same (end_any _ _ _ hX5)) | (go_at_call 35; exact Calls.quiet_of (rend_any _ _ _ _ (by omega) hY5)))
          go_wp2
          go_roundw
          case rel => exact ⟨k + 1, st', by omega, by omega, by go_num, hX5, hY5, below_drewN B5 _⟩
          case measure => simp [intOf]; omega
        · have hYl := hY.lt
          have hLen := hY.len
          go_wp2_with (first
            | (go_at_call 29; refine (list_any _ _ 1125899906842624 _ hX (by omega) (by omega) (by omega)).mono ?_; rintro e w4 ⟨v4, rfl, r4, hX4, oX⟩; have hY4 := hY.kept oX (by omega))
            | (go_at_call 30; refine (rlist_any _ _ _ 1125899906842624 _ (by omega) hY4 (by omega) (by omega)).mono ?_; rintro e w6 ⟨v6, rfl, r6, hY6, oY⟩; have hX6 := hX4.kept oY (by omega); have r4' := r4.only oY hYl)
            | (go_at_call 28; refine (same_any _ _ _ _ _ r4'.row r6).mono ?_; rintro e w5 ⟨rfl, b5⟩; have hX5 := hX6.old b5 hX6.lt; have hY5 := hY6.old b5 hY6.lt))
          have B5 : Below w.heap.size w w5 := below_step ((hbl.trans (oX.below hx hbl.size)).trans (oY.below (by omega) (by have := oX.size; have := hbl.size; omega))) (Nat.le_refl _) b5
          generalize (listR st 1125899906842624).2 = st' at hX5 hY5
          clear r4 r4' r6 hX6 hY6 b5 hYl hLen
          have c2 := hY5.c2
          have hsb : (st'.isSome == st'.isNone) = false := by cases st' <;> rfl
          clear hX hY hX4 hY4 oX oY hbl
          go_quiet (first | (go_at_call 31; exact quiet_same (left_any _ _ _ hX5)) | (go_at_call 32; exact Calls.quiet_of (rleft_any _ _ _ _ (by omega) hY5)) | (go_at_call 33; exact quiet_same (sound_any _ _ _ hX5)) | (go_at_call 34; exact quiet_same (end_any _ _ _ hX5)) | (go_at_call 35; exact Calls.quiet_of (rend_any _ _ _ _ (by omega) hY5)))
          go_wp2
          go_roundw
          case rel => exact ⟨k + 1, st', by omega, by omega, by go_num, hX5, hY5, below_drewN B5 _⟩
          case measure => simp [intOf]; omega
    · by_cases hkl : k < zs.length
      all_goals
        go_wp2
        go_ret
        exact ⟨rfl, hbl⟩

set_option maxHeartbeats 1600000 in
theorem walk_nil (s : ByteArray) (a : Option Addr) (cap : Nat) (w : World) :
    Calls Try.prog 4 #[.string s, .slice a 0 cap] w fun e w' => e = .returned (.bool true) ∧ Below w.heap.size w w' := by
  obtain ⟨S, hS⟩ : ∃ S, S = shortB s 400 := ⟨_, rfl⟩
  have hSs : S.size ≤ 400 := by rw [hS]; exact shortB_size s 400
  have hsh := fun w => short_any s 400 w
  rw [← hS] at hsh
  have HSh := Lib.hid hsh
  clear hsh hS
  go_enter Try.func4, Try.ntmps4
  go_wp2_with (first
    | (go_at_call 11; refine (awake_any _).mono ?_; rintro e w1 ⟨rfl, b1⟩)
    | (go_at_call 12; refine (HSh.out _).mono ?_; rintro e w2 ⟨rfl, rfl⟩)
    | (go_at_call 21; refine (read_str _ _ (by unfold maxLen; omega)).mono ?_; rintro e w3 ⟨rfl, h3, b3⟩))
  refine wp_loop_rounds 1 ?_
  rw [rounds_succ]
  go_wp2
  go_ret
  exact ⟨rfl, (below_step b1 (Nat.le_refl _) b3).alloc (Nat.le_trans b1.size b3.size) _⟩

theorem walk (s : ByteArray) (hs : s.size ≤ maxLen) (v : Value) (zs : List Int) (w : World) (hv : IntRow w v zs) :
    Calls Try.prog 4 #[.string s, v] w fun e w' => e = .returned (.bool true) ∧ Below w.heap.size w w' := by
  obtain ⟨a, cap, rfl, hl, hz, hc⟩ := hv
  by_cases hn : zs = []
  · subst hn; exact walk_nil s a cap w
  · obtain ⟨b, off, rfl, hb, hj⟩ := hc hn
    exact walk_some s b off cap zs w hs hl hz hb hj

set_option maxRecDepth 100000 in
theorem lifted (os : Os) (started : os.Started) (H : Type) (enc : TypeId × Value → H) :
    ReturnsInHanded {} Try.checked os 4 .any (Rows.octetReadsSpec.pre6 enc Try.prog Try.f4 Rows.octetReadsRow.domain false) (Rows.octetReadsSpec.post enc Try.prog Try.f4 false true false false) := by
  refine returnsInHanded_of_change (C := Try.checked) lawOwn started (by kernel_rfl) Try.func4
    (ChangeSpec.witness6 (enc := enc) (C := Try.checked) false ⟨#[], #[.string .empty, .slice none 0 0], []⟩ 8 (by kernel_rfl) (by kernel_rfl) (by kernel_rfl) (by kernel_rfl)) ?_
  intro W base args ds gs before hval0 hW hcnd _
  have hval : ∀ (j : Nat) t v, Try.f4.params[j]? = some t → args[j]? = some v → Value.okWide Try.prog W .any base t v := hval0
  have hW' := hW
  obtain ⟨p, q, hA0, hV, rfl, hfz, hnd⟩ := hW
  have hA : DataW.TrodAll enc Try.prog W 0 (fun _ => true) true Try.f4.params.toList args.toList ds p := hA0
  rw [Try.params4] at hA hval
  obtain ⟨v0, vs0, d0, ds0, p0, q0, hargs, rfl, rfl, h0, r0⟩ := trodAll_cons hA
  obtain ⟨v1, vs1, d1, ds1, p1, q1, rfl, rfl, rfl, h1, r1⟩ := trodAll_cons r0
  obtain ⟨rfl, rfl, rfl⟩ := trodAll_nil r1
  obtain rfl : args = #[v0, v1] := by cases args; simp_all
  obtain ⟨rfl, rfl⟩ := trodVars_none hV
  obtain ⟨s0, rfl, rfl, rfl, w0⟩ := Go.ChangeMaps.open_string Try.underlying9 (hval 0 9 v0 rfl rfl) h0
  obtain ⟨a1, len1, cap1, rfl⟩ := okWide_slice Try.underlying33 (hval 1 33 v1 rfl rfl)
  obtain ⟨zs1, w1⟩ := intRow_of h1
  clear hA0 hval0 hcnd
  refine (walk (w := W) s0 w0 _ zs1 w1).mono fun e W' ⟨he, bel⟩ => ?_
  subst he
  exact ⟨_, rfl, law_post rfl rfl (by kernel_rfl) hW' rfl bel⟩

theorem holds : Rows.OctetReadsSaid :=
  OpenClaim.holds_of_wide 4 Try.f4 rfl rfl rfl rfl rfl rfl rfl ⟨rfl, rfl, rfl, rfl, rfl⟩ rfl rfl rfl rfl rfl (by kernel_rfl) Try.func4 (by kernel_rfl)
    (of_decide_eq_true (by kernel_rfl)) (by unfold Func.isWrapper; first | (rw [if_pos (by decide +kernel)]; kernel_rfl) | (rw [if_neg (by decide +kernel)]; exact ⟨rfl, rfl⟩))
    (fun os started H enc _ => lifted os started H enc)
end Go.Proofs.Ytnhpebhmihagbaa.octetReads

theorem Go.Proofs.Ytnhpebhmihagbaa.octetReads_holds : Go.Proofs.Ytnhpebhmihagbaa.Rows.OctetReadsSaid := Go.Proofs.Ytnhpebhmihagbaa.octetReads.holds
#print axioms Go.Proofs.Ytnhpebhmihagbaa.octetReads_holds
