/-
  The document's own lines: keep, line, Head, First, Last.
-/
import Derived.Test.YtfcocbgdmmeikaaGreatDoorMRedA
import Derived.Test.YtfcocbgdmmeikaaGreatDoorMOct
namespace Go.Proofs.YtfcocbgdmmeikaaGreatDoor
open Go.RowKit Dsk

theorem refKeep_any (n : Int) (most : Nat) (M : Int) (hM : M = (most : Int)) (w : World) (h1 : -9223372036854775808 ≤ n) (h2 : n ≤ 9223372036854775807) (h3 : most ≤ 9223372036854775807) :
    Calls Tryz.prog 37 #[.int .i64 n, .int .i64 M] w fun e w' => e = .returned (.int .u64 (keptN n most : Nat)) ∧ w = w' := by
  subst hM
  unfold keptN
  by_cases h0 : n < 0
  · rw [if_pos h0]
    go_enter Tryz.func37, Tryz.ntmps37
    go_wp2
    go_ret
    exact ⟨rfl, rfl⟩
  · rw [if_neg h0]
    by_cases hm : (most : Int) < n
    · rw [if_pos hm]
      have e : (most : Int) % 18446744073709551616 = (most : Int) := by omega
      go_enter Tryz.func37, Tryz.ntmps37
      go_wp2
      go_ret
      exact ⟨rfl, rfl⟩
    · rw [if_neg hm]
      obtain ⟨k, rfl⟩ : ∃ k : Nat, n = k := ⟨n.toNat, by omega⟩
      rw [Int.toNat_natCast]
      have e : (k : Int) % 18446744073709551616 = (k : Int) := by omega
      go_enter Tryz.func37, Tryz.ntmps37
      go_wp2
      go_ret
      exact ⟨rfl, rfl⟩
theorem refLine_any (T : ByteArray) (w : World) (hs : T.size ≤ 1000) :
    Calls Tryz.prog 35 #[.string T] w fun e w' => e = .returned (.string (fillS (sealB T))) ∧ Below w.heap.size w w' := by
  have h1 := rseal_any T (by omega) w
  have hz := sealB_size T
  generalize sealB T = Z at *
  have h2 := fun u => refFill_any Z u (by omega)
  generalize fillS Z = F at *
  generalize fillE Z = E at *
  go_enter Tryz.func35, Tryz.ntmps35
  go_wp2_with (first
    | (go_at_call 69; refine h1.mono ?_; rintro e w1 ⟨rfl, b1⟩)
    | (go_at_call 38; refine (h2 _).mono ?_; rintro e w2 ⟨rfl, b2⟩))
  go_ret
  exact ⟨rfl, below_step b1 (Nat.le_refl _) b2⟩
theorem two_text (mark : List UInt8) (a b : Nat) : (⟨mark.toArray⟩ : ByteArray) ++ Oct.putB a ++ Oct.putB b = ⟨(mark ++ numsL [a, b]).toArray⟩ := by
  unfold Oct.putB
  rw [app_list, app_list]
  simp [numsL]
theorem refHead_any (p s : Int) (w : World) (p1 : -9223372036854775808 ≤ p) (p2 : p ≤ 9223372036854775807) (s1 : -9223372036854775808 ≤ s) (s2 : s ≤ 9223372036854775807) :
    Calls Tryz.prog 8 #[.int .i64 p, .int .i64 s] w fun e w' => e = .returned (.string (hdL (keptN p 65535) (keptN s 1099511627776))) ∧ Below w.heap.size w w' := by
  have k1 := fun u => refKeep_any p 65535 65535 rfl u p1 p2 (by decide)
  have k2 := fun u => refKeep_any s 1099511627776 1099511627776 rfl u s1 s2 (by decide)
  have l1 := keptN_le p 65535
  have l2 := keptN_le s 1099511627776
  unfold hdL lineB
  generalize keptN p 65535 = a at *
  generalize keptN s 1099511627776 = b at *
  have q1 := fun u => refPut_any a u (by omega)
  have q2 := fun u => refPut_any b u (by omega)
  have z1 := Oct.putB_size a
  have z2 := Oct.putB_size b
  have n1 := Oct.need_le a (by omega)
  have n2 := Oct.need_le b (by omega)
  rw [← two_text]
  generalize Oct.putB a = A at *
  generalize Oct.putB b = B at *
  have hM3 : (⟨#[83, 67, 72]⟩ : ByteArray).size = 3 := rfl
  have hz1 : (⟨#[83, 67, 72]⟩ : ByteArray).size + A.size ≤ 100 := by omega
  have hz3 : ((⟨#[83, 67, 72]⟩ : ByteArray) ++ A).size = 3 + A.size := by rw [ByteArray.size_append, hM3]
  have hsz : ((⟨#[83, 67, 72]⟩ : ByteArray) ++ A ++ B).size ≤ 1000 := by rw [ByteArray.size_append, hz3]; omega
  have hl := fun u => refLine_any ((⟨#[83, 67, 72]⟩ : ByteArray) ++ A ++ B) u hsz
  rw [show (⟨([83, 67, 72] : List UInt8).toArray⟩ : ByteArray) = ⟨#[83, 67, 72]⟩ from rfl]
  generalize fillS (sealB ((⟨#[83, 67, 72]⟩ : ByteArray) ++ A ++ B)) = F at *
  go_enter Tryz.func8, Tryz.ntmps8
  go_wp2_with (first
    | (go_at_call 37; (with_reducible refine (k1 _).mono ?_); rintro e w1 ⟨rfl, rfl⟩)
    | (go_at_call 37; (with_reducible refine (k2 _).mono ?_); rintro e w1 ⟨rfl, rfl⟩)
    | (go_at_call 36; (with_reducible refine (q1 _).mono ?_); rintro e w2 ⟨rfl, b2⟩)
    | (go_at_call 36; (with_reducible refine (q2 _).mono ?_); rintro e w3 ⟨rfl, b3⟩)
    | (go_at_call 35; refine (hl _).mono ?_; rintro e w4 ⟨rfl, b4⟩))
  go_ret
  exact ⟨rfl, below_step (below_step b2 (Nat.le_refl _) b3) (Nat.le_refl _) b4⟩
theorem refLast_any (p s : Int) (w : World) (p1 : -9223372036854775808 ≤ p) (p2 : p ≤ 9223372036854775807) (s1 : -9223372036854775808 ≤ s) (s2 : s ≤ 9223372036854775807) :
    Calls Tryz.prog 12 #[.int .i64 p, .int .i64 s] w fun e w' => e = .returned (.string (lsL (keptN p 1099511627776) (keptN s 1099511627776))) ∧ Below w.heap.size w w' := by
  have k1 := fun u => refKeep_any p 1099511627776 1099511627776 rfl u p1 p2 (by decide)
  have k2 := fun u => refKeep_any s 1099511627776 1099511627776 rfl u s1 s2 (by decide)
  have l1 := keptN_le p 1099511627776
  have l2 := keptN_le s 1099511627776
  unfold lsL lineB
  generalize keptN p 1099511627776 = a at *
  generalize keptN s 1099511627776 = b at *
  have q1 := fun u => refPut_any a u (by omega)
  have q2 := fun u => refPut_any b u (by omega)
  have z1 := Oct.putB_size a
  have z2 := Oct.putB_size b
  have n1 := Oct.need_le a (by omega)
  have n2 := Oct.need_le b (by omega)
  rw [← two_text]
  generalize Oct.putB a = A at *
  generalize Oct.putB b = B at *
  have hM3 : (⟨#[83, 67, 67]⟩ : ByteArray).size = 3 := rfl
  have hz1 : (⟨#[83, 67, 67]⟩ : ByteArray).size + A.size ≤ 100 := by omega
  have hz3 : ((⟨#[83, 67, 67]⟩ : ByteArray) ++ A).size = 3 + A.size := by rw [ByteArray.size_append, hM3]
  have hsz : ((⟨#[83, 67, 67]⟩ : ByteArray) ++ A ++ B).size ≤ 1000 := by rw [ByteArray.size_append, hz3]; omega
  have hl := fun u => refLine_any ((⟨#[83, 67, 67]⟩ : ByteArray) ++ A ++ B) u hsz
  rw [show (⟨([83, 67, 67] : List UInt8).toArray⟩ : ByteArray) = ⟨#[83, 67, 67]⟩ from rfl]
  generalize fillS (sealB ((⟨#[83, 67, 67]⟩ : ByteArray) ++ A ++ B)) = F at *
  go_enter Tryz.func12, Tryz.ntmps12
  go_wp2_with (first
    | (go_at_call 37; (with_reducible refine (k1 _).mono ?_); rintro e w1 ⟨rfl, rfl⟩)
    | (go_at_call 37; (with_reducible refine (k2 _).mono ?_); rintro e w1 ⟨rfl, rfl⟩)
    | (go_at_call 36; (with_reducible refine (q1 _).mono ?_); rintro e w2 ⟨rfl, b2⟩)
    | (go_at_call 36; (with_reducible refine (q2 _).mono ?_); rintro e w3 ⟨rfl, b3⟩)
    | (go_at_call 35; refine (hl _).mono ?_; rintro e w4 ⟨rfl, b4⟩))
  go_ret
  exact ⟨rfl, below_step (below_step b2 (Nat.le_refl _) b3) (Nat.le_refl _) b4⟩
/-- The bytes of a first line, of k sectors. -/
def fsT (q n : Nat) (A : List Nat) : ByteArray := ⟨([83, 67, 68] ++ numsL (q :: n :: A)).toArray⟩
theorem fsT_zero (q n : Nat) : (⟨#[83, 67, 68]⟩ : ByteArray) ++ Oct.putB q ++ Oct.putB n = fsT q n [] := by
  unfold fsT Oct.putB
  rw [show (⟨#[83, 67, 68]⟩ : ByteArray) = ⟨([83, 67, 68] : List UInt8).toArray⟩ from rfl, app_list, app_list]
  simp [numsL]
theorem fsT_snoc (q n y : Nat) (A : List Nat) : fsT q n A ++ Oct.putB y = fsT q n (A ++ [y]) := by
  unfold fsT Oct.putB
  rw [app_list]
  congr 2
  simp [numsL]
theorem fsT_size (q n : Nat) (A : List Nat) (hq : q ≤ 1099511627776) (hn : n ≤ 60) (hl : A.length ≤ 60) (hA : ∀ y ∈ A, y ≤ 65535) : (fsT q n A).size ≤ 600 := by
  unfold fsT
  rw [bytes_size, List.length_append]
  have := numsL_len (q :: n :: A) (fun x hx => by
    rcases List.mem_cons.1 hx with rfl | hx
    · omega
    · rcases List.mem_cons.1 hx with rfl | hx
      · omega
      · have := hA x hx; omega)
  simp only [List.length_cons, List.length_nil] at this ⊢
  omega
set_option maxHeartbeats 3200000 in
set_option maxRecDepth 100000 in
theorem refFirst_any (s : Int) (v : Value) (l : List Int) (b : Nat) (w : World) (hv : Ints w v l b) (hbd : ∀ j, -9223372036854775808 ≤ l.getD j 0 ∧ l.getD j 0 ≤ 9223372036854775807) (s1 : -9223372036854775808 ≤ s) (s2 : s ≤ 9223372036854775807) :
    Calls Tryz.prog 10 #[.int .i64 s, v] w fun e w' => e = .returned (.string (fsL (keptN s 1099511627776) (atsK l))) ∧ Below w.heap.size w w' := by
  obtain ⟨a, cap, rfl, hcap, hc⟩ := hv
  have k1 := refKeep_any s 1099511627776 1099511627776 rfl w s1 s2 (by decide)
  have l1 := keptN_le s 1099511627776
  have hal := atsK_len l
  have hst := atsK_step l
  have h65 : ∀ x ∈ atsK l, x ≤ 65535 := by
    intro x hx
    obtain ⟨z, _, rfl⟩ := List.mem_map.1 hx
    exact keptN_le _ _
  unfold fsL lineB
  generalize keptN s 1099511627776 = q at *
  generalize atsK l = A at *
  obtain ⟨n, hn⟩ : ∃ n, n = Nat.min l.length 60 := ⟨_, rfl⟩
  have hn1 : n ≤ l.length := by rw [hn]; exact Nat.min_le_left _ _
  have hn2 : n ≤ 60 := by rw [hn]; exact Nat.min_le_right _ _
  have hnl : (l.length ≤ 60 ∧ n = l.length) ∨ (60 < l.length ∧ n = 60) := by
    rw [hn]
    show (l.length ≤ 60 ∧ min l.length 60 = l.length) ∨ (60 < l.length ∧ min l.length 60 = 60)
    omega
  rw [← hn] at hal hst
  rw [hal]
  change Calls Tryz.prog 10 #[.int .i64 s, .slice a l.length cap] w fun e w' => e = .returned (.string (fillS (sealB (fsT q n A)))) ∧ Below w.heap.size w w'
  have hsz : ∀ k, k ≤ n → (fsT q n (A.take k)).size ≤ 600 := fun k hk => fsT_size q n _ l1 hn2 (by rw [List.length_take]; omega) fun y hy => h65 y (List.mem_of_mem_take hy)
  have hAt : A.take n = A := List.take_of_length_le (by omega)
  have hl := fun u => refLine_any (fsT q n A) u (by have := hsz n (Nat.le_refl _); rw [hAt] at this; omega)
  generalize fillS (sealB (fsT q n A)) = F at *
  have q1 := refPut_any q w (by omega)
  have q2 := fun u => refPut_any n u (by omega)
  have z1 := Oct.putB_size q
  have z2 := Oct.putB_size n
  have x1 := Oct.need_le q (by omega)
  have x2 := Oct.need_le n (by omega)
  have hf0 := fsT_zero q n
  have hM3 : (⟨#[83, 67, 68]⟩ : ByteArray).size = 3 := rfl
  have hz3 : ((⟨#[83, 67, 68]⟩ : ByteArray) ++ Oct.putB q).size = 3 + (Oct.putB q).size := by rw [ByteArray.size_append, hM3]
  generalize Oct.putB q = Q at *
  generalize Oct.putB n = N at *
  have hzA : (⟨#[83, 67, 68]⟩ : ByteArray).size + Q.size ≤ 100 := by omega
  have hzB : ((⟨#[83, 67, 68]⟩ : ByteArray) ++ Q).size + N.size ≤ 200 := by omega
  have HC := Lib.hid hc
  have HST := Lib.hid hst
  have HBD := Lib.hid hbd
  have HSZ := Lib.hid hsz
  have HL := Lib.hid hl
  have HF0 := Lib.hid hf0
  have HAT := Lib.hid hAt
  have H65 := Lib.hid h65
  clear hc hst hbd hsz hl hf0 hAt h65 hn hal hz3
  rcases hnl with ⟨hle, rfl⟩ | ⟨hgt, rfl⟩
  · have hi : ¬ (60 : Int) < (l.length : Int) := by omega
    try simp only [Int.cast_ofNat_Int] at q2
    go_enter Tryz.func10, Tryz.ntmps10
    go_wp2_with (first
      | (go_at_call 37; (with_reducible refine k1.mono ?_); rintro e w1 ⟨rfl, rfl⟩)
      | (go_at_call 36; (with_reducible refine q1.mono ?_); rintro e w2 ⟨rfl, b2⟩)
      | (go_at_call 36; (with_reducible refine (q2 _).mono ?_); rintro e w3 ⟨rfl, b3⟩))
    clear k1 q1 q2
    have hbl0 : Below w.heap.size w w3 := below_step b2 (Nat.le_refl _) b3
    rw [HF0.out]
    try simp only [Int.cast_ofNat_Int]
    go_loopw [6, 7] (fun v i wr => ∃ k : Nat, k ≤ l.length ∧ i = .int .i64 k ∧ v = .string (fsT q l.length (A.take k)) ∧ Below w.heap.size w wr)
      (fun _ i _ => l.length - (intOf i).toNat)
    case atStart => exact ⟨0, Nat.zero_le _, rfl, rfl, hbl0⟩
    case round =>
      obtain ⟨k, hk, rfl, rfl, hbl⟩ := hrel
      clear hbl0 b2 b3
      by_cases hlt : k < l.length
      · obtain ⟨off, rfl, hb, hj⟩ := HC.out (by intro e; have e' := congrArg List.length e; rw [List.length_nil] at e'; omega)
        have hcx := (hbl.cell (p := ⟨b, off + k, none⟩) hb).trans (hj k (by omega))
        have hbb := HBD.out k
        have hs1 := HST.out k hlt
        generalize l.getD k 0 = z at *
        have kk := fun u => refKeep_any z 65535 65535 rfl u hbb.1 hbb.2 (by decide)
        have kl := keptN_le z 65535
        generalize keptN z 65535 = y at *
        have qq := fun u => refPut_any y u (by omega)
        have hz := HSZ.out k hk
        have zy := Oct.putB_size y
        have xy := Oct.need_le y (by omega)
        have hsn := fsT_snoc q l.length y (A.take k)
        rw [← hs1] at hsn
        generalize Oct.putB y = Y at *
        have HSN := Lib.hid hsn
        have HJ := Lib.hid hj
        have hzz : (fsT q l.length (A.take k)).size + Y.size ≤ 700 := by omega
        clear hs1 hsn hj
        generalize fsT q l.length (A.take k) = T at *
        go_wp2_with (first
          | (go_at_call 37; (with_reducible refine (kk _).mono ?_); rintro e w4 ⟨rfl, rfl⟩)
          | (go_at_call 36; (with_reducible refine (qq _).mono ?_); rintro e w5 ⟨rfl, b5⟩))
        go_roundw
        case rel =>
          refine ⟨k + 1, by omega, by go_num, by rw [HSN.out], ?_⟩
          exact hbl.trans (b5.mono hbl.size)
        case measure => simp [intOf]; omega
      · obtain rfl : k = l.length := by omega
        rw [HAT.out]
        go_wp2_with (go_at_call 35; refine (HL.out _).mono ?_; rintro e w6 ⟨rfl, b6⟩)
        go_ret
        exact ⟨rfl, hbl.trans (b6.mono hbl.size)⟩
  · have hi : (60 : Int) < (l.length : Int) := by omega
    try simp only [Int.cast_ofNat_Int] at q2
    go_enter Tryz.func10, Tryz.ntmps10
    go_wp2_with (first
      | (go_at_call 37; (with_reducible refine k1.mono ?_); rintro e w1 ⟨rfl, rfl⟩)
      | (go_at_call 36; (with_reducible refine q1.mono ?_); rintro e w2 ⟨rfl, b2⟩)
      | (go_at_call 36; (with_reducible refine (q2 _).mono ?_); rintro e w3 ⟨rfl, b3⟩))
    clear k1 q1 q2
    have hbl0 : Below w.heap.size w w3 := below_step b2 (Nat.le_refl _) b3
    rw [HF0.out]
    try simp only [Int.cast_ofNat_Int]
    go_loopw [6, 7] (fun v i wr => ∃ k : Nat, k ≤ 60 ∧ i = .int .i64 k ∧ v = .string (fsT q 60 (A.take k)) ∧ Below w.heap.size w wr)
      (fun _ i _ => 60 - (intOf i).toNat)
    case atStart => exact ⟨0, Nat.zero_le _, rfl, rfl, hbl0⟩
    case round =>
      obtain ⟨k, hk, rfl, rfl, hbl⟩ := hrel
      clear hbl0 b2 b3
      by_cases hlt : k < 60
      · obtain ⟨off, rfl, hb, hj⟩ := HC.out (by intro e; have e' := congrArg List.length e; rw [List.length_nil] at e'; omega)
        have hcx := (hbl.cell (p := ⟨b, off + k, none⟩) hb).trans (hj k (by omega))
        have hbb := HBD.out k
        have hs1 := HST.out k hlt
        generalize l.getD k 0 = z at *
        have kk := fun u => refKeep_any z 65535 65535 rfl u hbb.1 hbb.2 (by decide)
        have kl := keptN_le z 65535
        generalize keptN z 65535 = y at *
        have qq := fun u => refPut_any y u (by omega)
        have hz := HSZ.out k hk
        have zy := Oct.putB_size y
        have xy := Oct.need_le y (by omega)
        have hsn := fsT_snoc q 60 y (A.take k)
        rw [← hs1] at hsn
        generalize Oct.putB y = Y at *
        have HSN := Lib.hid hsn
        have HJ := Lib.hid hj
        have hzz : (fsT q 60 (A.take k)).size + Y.size ≤ 700 := by omega
        clear hs1 hsn hj
        generalize fsT q 60 (A.take k) = T at *
        go_wp2_with (first
          | (go_at_call 37; (with_reducible refine (kk _).mono ?_); rintro e w4 ⟨rfl, rfl⟩)
          | (go_at_call 36; (with_reducible refine (qq _).mono ?_); rintro e w5 ⟨rfl, b5⟩))
        go_roundw
        case rel =>
          refine ⟨k + 1, by omega, by go_num, by rw [HSN.out], ?_⟩
          exact hbl.trans (b5.mono hbl.size)
        case measure => simp [intOf]; omega
      · obtain rfl : k = 60 := by omega
        rw [HAT.out]
        go_wp2_with (go_at_call 35; refine (HL.out _).mono ?_; rintro e w6 ⟨rfl, b6⟩)
        go_ret
        exact ⟨rfl, hbl.trans (b6.mono hbl.size)⟩
end Go.Proofs.YtfcocbgdmmeikaaGreatDoor
