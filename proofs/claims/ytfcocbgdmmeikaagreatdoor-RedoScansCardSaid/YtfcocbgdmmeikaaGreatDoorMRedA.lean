/-
  Several texts in one (RedLine, RedHead, RedFirst, RedText, RedPure, RedFind).
-/
import Derived.Test.YtfcocbgdmmeikaaGreatDoorMDisk
import Derived.Test.YtfcocbgdmmeikaaGreatDoorMCrc
import Derived.Lib.OthersKept
import Derived.Test.YtfcocbgdmmeikaaGreatDoorMOct
import Derived.Test.YtfcocbgdmmeikaaGreatDoorMJnl
/-! ## Package redo: lines: what Head, First and Last tell. -/
namespace Go.Proofs.YtfcocbgdmmeikaaGreatDoor
open Go.RowKit Dsk

theorem builder_old {T e : TypeId} {B b : Nat} {bs : List Value} {w w' : World} (h : Lib.IsBuilderF T e B b bs w) (k : Below w.heap.size w w') : Lib.IsBuilderF T e B b bs w' := by
  have go : ∀ p, Lib.BuilderAtF T e B b p bs w → Lib.BuilderAtF T e B b p bs w' := by
    rintro p ⟨hB, v, hb, ⟨h1, h2⟩, hne⟩
    refine ⟨hB, v, (k.block b (Array.getElem?_eq_some_iff.1 hb).1).trans hb, ⟨h1, ?_⟩, hne⟩
    rcases h2 with h2 | ⟨g, cap, cur, fz, hv, hg, hh, r⟩
    · exact Or.inl h2
    · exact Or.inr ⟨g, cap, cur, fz, hv, hg, (k.block g (Array.getElem?_eq_some_iff.1 hh).1).trans hh, r⟩
  exact h.elim (fun x => .inl (go _ x)) (fun x => .inr (go _ x))

/-- The number from 0 to most that is next to n. -/
def keptN (n : Int) (most : Nat) : Nat := if n < 0 then 0 else if (most : Int) < n then most else n.toNat
theorem keptN_le (n : Int) (most : Nat) : keptN n most ≤ most := by
  unfold keptN
  split
  · omega
  · split <;> omega
theorem keptN_id (n most : Nat) (h : n ≤ most) : keptN (n : Int) most = n := by
  unfold keptN
  rw [if_neg (by omega), if_neg (by omega), Int.toNat_natCast]
theorem kept_any (n : Int) (most : Nat) (M : Int) (hM : M = (most : Int)) (w : World) (_h1 : -9223372036854775808 ≤ n) (_h2 : n ≤ 9223372036854775807) (_h3 : most ≤ 9223372036854775807) :
    Calls Tryz.prog 34 #[.int .i64 n, .int .i64 M] w fun e w' => e = .returned (.int .i64 (keptN n most : Nat)) ∧ w = w' := by
  subst hM
  go_enter Tryz.func34, Tryz.ntmps34
  go_wp2
  go_ret
  refine ⟨ret_int (show min (max n 0) (most : Int) = _ from ?_), rfl⟩
  unfold keptN
  split
  · omega
  · split <;> omega

/-- Numbers, put one behind the other. -/
def numsL (l : List Nat) : List UInt8 := l.flatMap Oct.putL
theorem numsL_take (l : List Nat) (k : Nat) (h : k < l.length) : numsL (l.take (k + 1)) = numsL (l.take k) ++ Oct.putL (l.getD k 0) := by
  have e : l.getD k 0 = l[k] := by rw [List.getD_eq_getElem?_getD, List.getElem?_eq_getElem h]; rfl
  unfold numsL
  rw [List.take_succ_eq_append_getElem h, e, List.flatMap_append, List.flatMap_cons, List.flatMap_nil, List.append_nil]
theorem numsL_len (l : List Nat) (h : ∀ x ∈ l, x < 18446744073709551616) : (numsL l).length ≤ 9 * l.length := by
  induction l with
  | nil => simp [numsL]
  | cons x l ih =>
    have h1 := putL_le x (h x (by simp))
    have h2 := ih fun y hy => h y (List.mem_cons_of_mem _ hy)
    simp only [numsL, List.flatMap_cons, List.length_append, List.length_cons] at h2 ⊢
    omega
/-- The sector of a mark and numbers. -/
def lineB (mark : List UInt8) (l : List Nat) : ByteArray := fillS (sealB ⟨(mark ++ numsL l).toArray⟩)

theorem bytes_size (l : List UInt8) : (⟨l.toArray⟩ : ByteArray).size = l.length := by simp [ByteArray.size]
theorem getD_mem (l : List Nat) (k : Nat) (h : k < l.length) : l.getD k 0 ∈ l := by
  rw [List.getD_eq_getElem?_getD, List.getElem?_eq_getElem h]
  exact List.getElem_mem h
theorem ints_getD (l : List Nat) (k : Nat) : (l.map Int.ofNat).getD k 0 = ((l.getD k 0 : Nat) : Int) := by
  rw [List.getD_eq_getElem?_getD, List.getD_eq_getElem?_getD, List.getElem?_map]
  cases l[k]? <;> rfl

set_option maxHeartbeats 1600000 in
theorem line_any (mark : List UInt8) (hmk : mark.length ≤ 10) (v : Value) (l : List Nat) (b : Nat) (w : World) (hT : TW w) (hv : Ints w v (l.map Int.ofNat) b) (hl : l.length ≤ 100) (hne : l ≠ []) (hx : ∀ x ∈ l, x < 9223372036854775808) :
    Calls Tryz.prog 33 #[.string ⟨mark.toArray⟩, v] w fun e w' => e = .returned (.string (lineB mark l)) ∧ Below w.heap.size w w' := by
  obtain ⟨a, cap, rfl, _, hc⟩ := hv
  obtain ⟨off, rfl, hb, hj⟩ := hc (by simpa using hne)
  rw [List.length_map] at hj ⊢
  have HC := Lib.hid hj
  have hlen := numsL_len l fun x h => by have := hx x h; omega
  have HX := Lib.hid hx
  have HI := Lib.hid (Lib.IsBuilderF.of (Lib.fresh_isBuilder 109 5 w))
  have hms := bytes_size mark
  have HM : Hid (Lib.strCells ⟨mark.toArray⟩ = Lib.byteCells mark) := Lib.hid rfl
  obtain ⟨M, hM⟩ : ∃ M : ByteArray, M = ⟨mark.toArray⟩ := ⟨_, rfl⟩
  rw [← hM] at hms HM ⊢
  obtain ⟨F, hF⟩ : ∃ F, F = lineB mark l := ⟨_, rfl⟩
  rw [← hF]
  have HF := Lib.hid hF
  clear hj hc hx hM hF
  go_enter Tryz.func33, Tryz.ntmps33
  go_wp2_with (go_at_call 64; refine (writeString_any w.heap.size w.heap.size [] _ _ HI.out (by rw [hms, List.length_nil]; omega) (by simp)).mono ?_; rintro e w2 ⟨rfl, h2, b2, _⟩)
  rw [List.nil_append, HM.out] at h2
  have B2 : Below w.heap.size w w2 := ((Below.refl _ _).alloc (Nat.le_refl _) _).trans b2
  have H2 : Hid (Lib.IsBuilderF 109 5 w.heap.size w.heap.size (Lib.byteCells mark) w2) := Or.inr h2
  clear b2 h2 HI
  go_wp2
  go_loopw [14] (fun i wr => ∃ k : Nat, k ≤ l.length ∧ i = .int .i64 k ∧ Lib.IsBuilderF 109 5 w.heap.size w.heap.size (Lib.byteCells (mark ++ numsL (l.take k))) wr ∧ Below w.heap.size w wr)
    (fun i _ => l.length - (intOf i).toNat)
  case atStart => exact ⟨0, Nat.zero_le _, rfl, by simpa [numsL] using H2.out, B2⟩
  case round =>
    obtain ⟨k, hk, rfl, hI, hbl⟩ := hrel
    clear H2 B2
    by_cases hlt : k < l.length
    · have hcx := (hbl.cell (p := ⟨b, off + k, none⟩) hb).trans (HC.out k hlt)
      rw [ints_getD] at hcx
      have hst := numsL_take l k hlt
      have hq := HX.out _ (getD_mem l k hlt)
      have hlk := numsL_len (l.take k) fun x h => by have := HX.out x (List.mem_of_mem_take h); omega
      rw [List.length_take, Nat.min_eq_left hk] at hlk
      generalize l.getD k 0 = x at *
      have hp9 := putL_le x (by omega)
      have hcv : (x : Int) % 18446744073709551616 = (x : Int) := by omega
      have HS := Lib.hid hst
      clear hst
      go_wp2_with (first
        | (go_at_call 65; refine (put_any x _ (by omega)).mono ?_; rintro e w3 ⟨rfl, b3⟩)
        | (go_at_call 64; refine (writeString_any w.heap.size w.heap.size _ _ _ (builder_old hI b3) (by rw [Lib.byteCells_length, List.length_append, Oct.putB_size, ← Oct.putL_length]; omega) (Nat.le_trans hbl.size b3.size)).mono ?_; rintro e w4 ⟨rfl, h4, b4, _⟩))
      go_roundw
      case rel =>
        refine ⟨k + 1, by omega, by go_num, ?_, (hbl.trans (b3.mono hbl.size)).trans b4⟩
        rw [HS.out, ← List.append_assoc, Lib.byteCells_append]
        exact Or.inr h4
      case measure => simp [intOf]; omega
    · have e : l.take k = l := List.take_of_length_le (by omega)
      rw [e] at hI
      clear e
      have hT2 : TW wr := fun i hi => (hbl.cell (by exact hT.pos)).trans (hT i hi)
      have hF := HF.out
      unfold lineB at hF
      have hsz := bytes_size (mark ++ numsL l)
      rw [List.length_append] at hsz
      obtain ⟨T, hTT⟩ : ∃ T : ByteArray, T = ⟨(mark ++ numsL l).toArray⟩ := ⟨_, rfl⟩
      have hbs := builderString_any w.heap.size w.heap.size _ _ hI hbl.size
      rw [← hTT] at hsz hbs hF
      clear hTT hI
      have hss := sealB_size T
      obtain ⟨Z, hZ⟩ : ∃ Z : ByteArray, Z = sealB T := ⟨_, rfl⟩
      have hse := fun u h => seal_any T (by omega) u h
      rw [← hZ] at hss hF
      simp only [← hZ] at hse
      have hfi := fun u => fill_any Z u (by omega)
      clear hZ
      rw [← hF] at hfi
      clear hF
      generalize fillE Z = E at *
      go_wp2_with (first
        | (go_at_call 68; refine hbs.mono ?_; rintro e w5 ⟨rfl, _, b5, _⟩; have hT5 : TW w5 := fun i hi => ((hbl.trans b5).cell (by exact hT.pos)).trans (hT i hi))
        | (go_at_call 67; refine (hse _ hT5).mono ?_; rintro e w6 ⟨rfl, b6⟩)
        | (go_at_call 66; refine (hfi _).mono ?_; rintro e w7 ⟨rfl, b7⟩))
      go_ret
      exact ⟨rfl, below_step (below_step (hbl.trans b5) (Nat.le_refl _) b6) (Nat.le_refl _) b7⟩
end Go.Proofs.YtfcocbgdmmeikaaGreatDoor
/-! ## Package redo: what Head, First and Last tell. -/
namespace Go.Proofs.YtfcocbgdmmeikaaGreatDoor
open Go.RowKit Dsk

/-- The head, the first line, the last line. -/
def hdL (p s : Nat) : ByteArray := lineB [83, 67, 72] [p, s]
def fsL (s : Nat) (at_ : List Nat) : ByteArray := lineB [83, 67, 68] (s :: at_.length :: at_)
def lsL (s n : Nat) : ByteArray := lineB [83, 67, 67] [s, n]

theorem two_ints (w : World) (a b : Nat) : Ints (w.alloc (.cells #[.int .i64 (a : Int), .int .i64 (b : Int)] 3)) (.slice (some ⟨w.heap.size, 0, none⟩) 2 2) ([a, b].map Int.ofNat) w.heap.size := by
  refine ⟨_, 2, rfl, ⟨Nat.le_refl 2, by decide⟩, fun _ => ⟨0, rfl, by simp, fun j hj => ?_⟩⟩
  rw [cell_of (heap_alloc_last w _)]
  match j, hj with
  | 0, _ => rfl
  | 1, _ => rfl
theorem hdl_any (p s : Int) (w : World) (hT : TW w) (p1 : -9223372036854775808 ≤ p) (p2 : p ≤ 9223372036854775807) (s1 : -9223372036854775808 ≤ s) (s2 : s ≤ 9223372036854775807) :
    Calls Tryz.prog 7 #[.int .i64 p, .int .i64 s] w fun e w' => e = .returned (.string (hdL (keptN p 65535) (keptN s 1099511627776))) ∧ Below w.heap.size w w' := by
  have k1 := kept_any p 65535 65535 rfl w p1 p2 (by decide)
  have k2 := kept_any s 1099511627776 1099511627776 rfl w s1 s2 (by decide)
  have l1 := keptN_le p 65535
  have l2 := keptN_le s 1099511627776
  unfold hdL
  generalize keptN p 65535 = a at *
  generalize keptN s 1099511627776 = b at *
  have hl := line_any [83, 67, 72] (by decide) _ [a, b] _ _ (hT.alloc (.cells #[.int .i64 (a : Int), .int .i64 (b : Int)] 3)) (two_ints w a b) (show 2 ≤ 100 by decide) (by simp) (by intro x hx; simp at hx; rcases hx with rfl | rfl <;> omega)
  generalize lineB [83, 67, 72] [a, b] = Z at *
  go_enter Tryz.func7, Tryz.ntmps7
  go_wp2_with (first
    | (go_at_call 34; (with_reducible refine k1.mono ?_); rintro e w1 ⟨rfl, rfl⟩)
    | (go_at_call 34; (with_reducible refine k2.mono ?_); rintro e w1 ⟨rfl, rfl⟩)
    | (go_at_call 33; refine hl.mono ?_; rintro e w2 ⟨rfl, b2⟩))
  go_ret
  exact ⟨rfl, below_step ((Below.refl _ _).alloc (Nat.le_refl _) _) (Nat.le_refl _) b2⟩
theorem lsl_any (s n : Int) (w : World) (hT : TW w) (p1 : -9223372036854775808 ≤ s) (p2 : s ≤ 9223372036854775807) (s1 : -9223372036854775808 ≤ n) (s2 : n ≤ 9223372036854775807) :
    Calls Tryz.prog 11 #[.int .i64 s, .int .i64 n] w fun e w' => e = .returned (.string (lsL (keptN s 1099511627776) (keptN n 1099511627776))) ∧ Below w.heap.size w w' := by
  have k1 := kept_any s 1099511627776 1099511627776 rfl w p1 p2 (by decide)
  have k2 := kept_any n 1099511627776 1099511627776 rfl w s1 s2 (by decide)
  have l1 := keptN_le s 1099511627776
  have l2 := keptN_le n 1099511627776
  unfold lsL
  generalize keptN s 1099511627776 = a at *
  generalize keptN n 1099511627776 = b at *
  have hl := line_any [83, 67, 67] (by decide) _ [a, b] _ _ (hT.alloc (.cells #[.int .i64 (a : Int), .int .i64 (b : Int)] 3)) (two_ints w a b) (show 2 ≤ 100 by decide) (by simp) (by intro x hx; simp at hx; rcases hx with rfl | rfl <;> omega)
  generalize lineB [83, 67, 67] [a, b] = Z at *
  go_enter Tryz.func11, Tryz.ntmps11
  go_wp2_with (first
    | (go_at_call 34; (with_reducible refine k1.mono ?_); rintro e w1 ⟨rfl, rfl⟩)
    | (go_at_call 34; (with_reducible refine k2.mono ?_); rintro e w1 ⟨rfl, rfl⟩)
    | (go_at_call 33; refine hl.mono ?_; rintro e w2 ⟨rfl, b2⟩))
  go_ret
  exact ⟨rfl, below_step ((Below.refl _ _).alloc (Nat.le_refl _) _) (Nat.le_refl _) b2⟩
end Go.Proofs.YtfcocbgdmmeikaaGreatDoor
/-! ## Package redo: what First tells. -/
namespace Go.Proofs.YtfcocbgdmmeikaaGreatDoor
open Go.RowKit Dsk

/-- The sectors that a first line tells of. -/
def atsK (l : List Int) : List Nat := (l.take 60).map fun z => keptN z 65535
theorem atsK_len (l : List Int) : (atsK l).length = Nat.min l.length 60 := by
  unfold atsK
  rw [List.length_map, List.length_take, Nat.min_comm]
theorem atsK_step (l : List Int) (k : Nat) (h : k < Nat.min l.length 60) : (atsK l).take (k + 1) = (atsK l).take k ++ [keptN (l.getD k 0) 65535] := by
  have h1 : k < (atsK l).length := by rw [atsK_len]; exact h
  have h2 : k < l.length := Nat.lt_of_lt_of_le h (Nat.min_le_left _ _)
  have h3 : k < 60 := Nat.lt_of_lt_of_le h (Nat.min_le_right _ _)
  rw [List.take_succ_eq_append_getElem h1]
  congr 2
  simp [atsK, List.getD_eq_getElem?_getD, h2]

theorem int_one (w : World) (a : Int) : ∀ j u, [Value.int .i64 a][j]? = some u → (w.alloc (.cells #[.int .i64 a] 3)).cell? ⟨w.heap.size, j, none⟩ = some u := by
  intro j u hu
  rw [cell_of (heap_alloc_last w _)]
  match j, hu with
  | 0, hu => simpa using hu

set_option maxHeartbeats 1600000 in
set_option maxRecDepth 100000 in
theorem fsl_any (s : Int) (v : Value) (l : List Int) (b : Nat) (w : World) (hT : TW w) (hv : Ints w v l b) (hbd : ∀ j, -9223372036854775808 ≤ l.getD j 0 ∧ l.getD j 0 ≤ 9223372036854775807) (s1 : -9223372036854775808 ≤ s) (s2 : s ≤ 9223372036854775807) :
    Calls Tryz.prog 9 #[.int .i64 s, v] w fun e w' => e = .returned (.string (fsL (keptN s 1099511627776) (atsK l))) ∧ Below w.heap.size w w' := by
  obtain ⟨a, cap, rfl, hcap, hc⟩ := hv
  have k1 := kept_any s 1099511627776 1099511627776 rfl w s1 s2 (by decide)
  have l1 := keptN_le s 1099511627776
  have hal := atsK_len l
  have hst := atsK_step l
  have hlt65 : ∀ x ∈ atsK l, x ≤ 65535 := by
    intro x hx
    obtain ⟨z, _, rfl⟩ := List.mem_map.1 hx
    exact keptN_le _ _
  obtain ⟨F, hF⟩ : ∃ F, F = fsL (keptN s 1099511627776) (atsK l) := ⟨_, rfl⟩
  rw [← hF]
  generalize keptN s 1099511627776 = q at *
  generalize atsK l = A at *
  obtain ⟨n, hn⟩ : ∃ n, n = Nat.min l.length 60 := ⟨_, rfl⟩
  have hn1 : n ≤ l.length := by rw [hn]; exact Nat.min_le_left _ _
  have hn2 : n ≤ 60 := by rw [hn]; exact Nat.min_le_right _ _
  have hmin : min (l.length : Int) 60 = (n : Int) := by rw [hn]; show _ = ((min l.length 60 : Nat) : Int); omega
  rw [← hn] at hal hst
  have hncap : n ≤ cap := by omega
  have HF := Lib.hid hF
  have HST := Lib.hid hst
  have HC := Lib.hid hc
  have HBD := Lib.hid hbd
  have H65 := Lib.hid hlt65
  have HAL := Lib.hid hal
  clear hF hst hc hbd hlt65 hal hn
  go_enter Tryz.func9, Tryz.ntmps9
  go_wp2_with (go_at_call 34; refine k1.mono ?_; rintro e w1 ⟨rfl, rfl⟩)
  clear k1
  have B0 : Below w.heap.size w (w.alloc (.cells #[.int .i64 (q : Int), .int .i64 (n : Int)] 3)) := (Below.refl _ _).alloc (Nat.le_refl _) _
  have O0 := OwnI.two w q n
  generalize w.alloc (.cells #[.int .i64 (q : Int), .int .i64 (n : Int)] 3) = wa at *
  go_loopw [5, 20] (fun v i wr => ∃ k : Nat, k ≤ n ∧ i = .int .i64 k ∧ OwnI v ((q :: n :: A.take k).map Int.ofNat) wr ∧ (∀ j, v.ownBlock = some j → w.heap.size ≤ j) ∧ Below w.heap.size w wr)
    (fun _ i _ => n - (intOf i).toNat)
  case atStart => exact ⟨0, Nat.zero_le _, rfl, O0, fun j e => by simp [Value.ownBlock] at e; omega, B0⟩
  case round =>
    obtain ⟨k, hk, rfl, hO, hge, hbl⟩ := hrel
    clear O0 B0
    by_cases hlt : k < n
    · obtain ⟨off, rfl, hb, hj⟩ := HC.out (by intro e; rw [e] at hn1; simp at hn1; omega)
      have hcx := (hbl.cell (p := ⟨b, off + k, none⟩) hb).trans (hj k (by omega))
      have hbb := HBD.out k
      have hs1 := HST.out k hlt
      generalize l.getD k 0 = z at *
      have kk := fun u => kept_any z 65535 65535 rfl u hbb.1 hbb.2 (by decide)
      have kl := keptN_le z 65535
      generalize keptN z 65535 = y at *
      obtain ⟨va, vc, rfl⟩ := hO.slice
      have HS1 := Lib.hid hs1
      have HJ := Lib.hid hj
      have hlenA : (A.take k).length = k := by rw [List.length_take, HAL.out]; omega
      have hsl : ((q :: n :: A.take k).map Int.ofNat).length = k + 2 := by rw [List.length_map, List.length_cons, List.length_cons, hlenA]
      have HSL := Lib.hid hsl
      have HO := Lib.hid hO
      have HGE := Lib.hid hge
      rw [hsl]
      clear hs1 hj hO hge hlenA hsl
      go_wp2_with (first
        | (go_at_call 34; refine (kk _).mono ?_; rintro e w1 ⟨rfl, rfl⟩)
        | (at_builtin; refine wpList_append_one Tryz.underlying23 info_int rfl (by decide) (by decide) rfl (.tmp 24) (.tmp 27) rfl (.slice va (k + 2) vc) (k + 2) (((q :: n :: A.take k).map Int.ofNat).map fun z => Value.int .i64 z) rfl (by have := HO.out; unfold OwnI at this; rw [HSL.out] at this; exact World.ownsRow.alloc this _) wr.heap.size rfl [.int .i64 (y : Int)] rfl (by intro u hu; simp at hu; subst hu; rfl) (int_one wr _) (by omega) ?_; intro v' w2 hO2 hg2 hgo))
      go_roundw
      case rel =>
        refine ⟨k + 1, by omega, by go_num, ?_, fun j e => ?_, ?_⟩
        · rw [HS1.out]
          unfold OwnI
          have e1 : (List.map Int.ofNat (q :: n :: (A.take k ++ [y]))).length = k + 2 + 1 := by
            have := HSL.out
            simp only [List.length_map, List.length_cons, List.length_append, List.length_nil] at this ⊢
            omega
          rw [e1]
          simpa using hO2
        · rcases hgo j e with e' | e'
          · exact HGE.out j (by rw [HSL.out]; exact e')
          · have := hbl.size
            simp at e'
            omega
        · refine below_grown (hbl.alloc hbl.size _) hg2 (by have := hbl.size; simp; omega) fun j e => HGE.out j (by rw [HSL.out]; exact e)
      case measure => simp [intOf]; omega
    · obtain rfl : n = k := by omega
      have hA : A.take n = A := List.take_of_length_le (by rw [HAL.out]; omega)
      rw [hA] at hO
      obtain ⟨va, vc, rfl⟩ := hO.slice
      obtain ⟨bb, hI, _⟩ := hO.ints
      have hsl : ((q :: n :: A).map Int.ofNat).length = n + 2 := by rw [List.length_map, List.length_cons, List.length_cons, HAL.out]
      rw [hsl] at hI ⊢
      have hT2 : TW wr := fun i hi => (hbl.cell (by exact hT.pos)).trans (hT i hi)
      have hl := line_any [83, 67, 68] (by decide) _ (q :: n :: A) _ wr hT2 hI (by rw [List.length_cons, List.length_cons, HAL.out]; omega) (by simp) (by
        intro x hx
        rcases List.mem_cons.1 hx with rfl | hx
        · omega
        · rcases List.mem_cons.1 hx with rfl | hx
          · omega
          · have := H65.out x hx; omega)
      have hF := HF.out
      unfold fsL at hF
      rw [HAL.out] at hF
      rw [← hF] at hl
      clear hF hA hI hO hsl
      go_wp2_with (go_at_call 33; refine hl.mono ?_; rintro e w2 ⟨rfl, b2⟩)
      go_ret
      exact ⟨rfl, hbl.trans (b2.mono hbl.size)⟩
end Go.Proofs.YtfcocbgdmmeikaaGreatDoor
/-! ## Package redo: lines that are read: numbersOf, readHead. A scanner that is nil is as one that is spoilt. -/
namespace Go.Proofs.YtfcocbgdmmeikaaGreatDoor
open Go.RowKit Dsk

/-- v is a scanner, or nil. -/
def ScP (v : Value) (st : Option (List UInt8)) (w : World) : Prop := (v = .pointer none ∧ st = none) ∨ ∃ b, v = .pointer (some ⟨b, 0, none⟩) ∧ Scn b st w
/-- The block of a pointer. -/
def isP (v : Value) (k : Nat) : Prop := v = .pointer (some ⟨k, 0, none⟩)

theorem sound_nil (w : World) : Calls Tryz.prog 103 #[.pointer none] w fun e w' => e = .returned (.bool false) ∧ w = w' := by
  go_enter Tryz.func103, Tryz.ntmps103
  go_wp2
  go_ret
  exact ⟨rfl, rfl⟩
theorem spoil_nil (w : World) : Calls Tryz.prog 102 #[.pointer none] w fun e w' => e = .returned (.tuple #[]) ∧ w = w' := by
  go_enter Tryz.func102, Tryz.ntmps102
  go_wp2
  go_end0
  exact ⟨rfl, rfl⟩
theorem end_nil (w : World) : Calls Tryz.prog 73 #[.pointer none] w fun e w' => e = .returned (.int .i64 10) ∧ w = w' := by
  go_enter Tryz.func73, Tryz.ntmps73
  go_wp2_with (go_at_call 103; refine (sound_nil _).mono ?_; rintro e w' ⟨rfl, rfl⟩)
  go_ret
  exact ⟨rfl, rfl⟩
theorem long_nil (w : World) : Calls Tryz.prog 101 #[.pointer none] w fun e w' => e = .returned (.int .u64 0) ∧ w = w' := by
  go_enter Tryz.func101, Tryz.ntmps101
  go_wp2_with (go_at_call 103; refine (sound_nil _).mono ?_; rintro e w' ⟨rfl, rfl⟩)
  go_ret
  exact ⟨rfl, rfl⟩
theorem num_nil (most : Int) (m1 : -9223372036854775808 ≤ most) (m2 : most ≤ 9223372036854775807) (w : World) : Calls Tryz.prog 72 #[.pointer none, .int .i64 most] w fun e w' => e = .returned (.int .i64 0) ∧ w = w' := by
  by_cases h : most < 0
  all_goals
    go_enter Tryz.func72, Tryz.ntmps72
    go_wp2_with (first
      | (go_at_call 101; refine (long_nil _).mono ?_; rintro e w' ⟨rfl, rfl⟩)
      | (go_at_call 102; refine (spoil_nil _).mono ?_; rintro e w' ⟨rfl, rfl⟩))
    go_ret
    exact ⟨rfl, rfl⟩
theorem numV_nil (most : Int) : numV none most = 0 := by unfold numV longV; split <;> rfl
theorem numS_nil (most : Int) : numS none most = none := by unfold numS longS; split <;> rfl
theorem nump_any (v : Value) (st : Option (List UInt8)) (most : Int) (w : World) (h : ScP v st w) (m1 : -9223372036854775808 ≤ most) (m2 : most ≤ 9223372036854775807) :
    Calls Tryz.prog 72 #[v, .int .i64 most] w fun e w' => e = .returned (.int .i64 (numV st most : Nat)) ∧ ScP v (numS st most) w' ∧ Fr (isP v) w w' := by
  rcases h with ⟨rfl, rfl⟩ | ⟨b, rfl, h⟩
  · rw [numV_nil, numS_nil]
    exact (num_nil most m1 m2 w).mono fun e w' ⟨h1, h2⟩ => ⟨h1, .inl ⟨rfl, rfl⟩, h2 ▸ Fr.refl _ _⟩
  · exact (num_any b st most w h m1 m2).mono fun e w' ⟨h1, h2, h3⟩ => ⟨h1, .inr ⟨b, rfl, h2⟩, h3.fr rfl⟩
theorem endp_any (v : Value) (st : Option (List UInt8)) (w : World) (h : ScP v st w) :
    Calls Tryz.prog 73 #[v] w fun e w' => e = .returned (.int .i64 (endV st)) ∧ w = w' := by
  rcases h with ⟨rfl, rfl⟩ | ⟨b, rfl, h⟩
  · exact end_nil w
  · exact end_any b st w h

/-! ### Canonical numbers -/
theorem be_val : ∀ (k : Nat) (l : List UInt8), l.length = k → Oct.be (Oct.val l) k = l
  | 0, l, h => by rw [List.eq_nil_of_length_eq_zero h]; rfl
  | k + 1, l, h => by
    apply List.ext_getElem?
    intro i
    by_cases hi : i < k + 1
    · rw [Oct.be_get _ _ _ hi]
      have hi' : i < l.length := by omega
      rw [List.getElem?_eq_getElem hi']
      congr 1
      -- the byte i of the number
      have e : l = l.take i ++ l[i] :: l.drop (i + 1) := by rw [← List.drop_eq_getElem_cons hi', List.take_append_drop]
      have hv : Oct.val l = Oct.val (l.take i) * 256 ^ (k + 1 - i) + (l[i].toNat * 256 ^ (k - i) + Oct.val (l.drop (i + 1))) := by
        conv => lhs; rw [e]
        unfold Oct.val
        rw [List.foldl_append, Oct.val_cons_acc, Oct.val_cons]
        congr 2
        · rw [List.length_cons, List.length_drop, show l.length - (i + 1) + 1 = k + 1 - i by omega]
        · rw [List.length_drop, show l.length - (i + 1) = k - i by omega]
      have hlt : Oct.val (l.drop (i + 1)) < 256 ^ (k - i) := Oct.val_lt (k - i) _ (by rw [List.length_drop]; omega)
      rw [hv, show k + 1 - 1 - i = k - i by omega]
      have hp : 0 < 256 ^ (k - i) := Nat.pow_pos (by decide)
      have h1 : (Oct.val (l.take i) * 256 ^ (k + 1 - i) + (l[i].toNat * 256 ^ (k - i) + Oct.val (l.drop (i + 1)))) / 256 ^ (k - i) = Oct.val (l.take i) * 256 + l[i].toNat := by
        rw [show k + 1 - i = (k - i) + 1 by omega, Nat.pow_succ]
        rw [show Oct.val (l.take i) * (256 ^ (k - i) * 256) + (l[i].toNat * 256 ^ (k - i) + Oct.val (l.drop (i + 1))) = 256 ^ (k - i) * (Oct.val (l.take i) * 256 + l[i].toNat) + Oct.val (l.drop (i + 1)) by
          rw [Nat.mul_add, Nat.mul_comm (256 ^ (k - i)) l[i].toNat, Nat.add_assoc]
          congr 1
          rw [Nat.mul_left_comm, Nat.mul_comm (256 ^ (k - i)) (Oct.val (l.take i) * 256), Nat.mul_assoc, Nat.mul_comm 256]]
        rw [Nat.mul_add_div hp, Nat.div_eq_of_lt hlt, Nat.add_zero]
      rw [h1]
      apply UInt8.toNat.inj
      rw [UInt8.toNat_ofNat']
      have := l[i].toNat_lt
      omega
    · rw [List.getElem?_eq_none (by rw [Oct.be_length]; omega), List.getElem?_eq_none (by omega)]
theorem need_val (l : List UInt8) (k : Nat) (hl : l.length = k) (h8 : k ≤ 8) (hh : 0 < k → l.headD 0 ≠ 0) : Oct.need (Oct.val l) = k := by
  have hlt := Oct.val_lt k l hl
  have h64 : Oct.val l < 18446744073709551616 := Nat.lt_of_lt_of_le hlt (Nat.le_trans (Nat.pow_le_pow_right (by decide) h8) (by decide))
  by_cases hk : k = 0
  · subst hk
    rw [List.eq_nil_of_length_eq_zero hl]
    exact Oct.need_zero
  · have hne := hh (by omega)
    cases l with
    | nil => simp at hl; omega
    | cons b r =>
      have hb : b ≠ 0 := hne
      have hb1 : 1 ≤ b.toNat := by
        rcases Nat.eq_zero_or_pos b.toNat with e | e
        · exact absurd (UInt8.toNat.inj (by rw [e]; rfl)) hb
        · exact e
      rw [List.length_cons] at hl
      have hge : 256 ^ (k - 1) ≤ Oct.val (b :: r) := by
        rw [Oct.val_cons, show r.length = k - 1 by omega]
        calc 256 ^ (k - 1) = 1 * 256 ^ (k - 1) := (Nat.one_mul _).symm
          _ ≤ b.toNat * 256 ^ (k - 1) := Nat.mul_le_mul_right _ hb1
          _ ≤ _ := Nat.le_add_right _ _
      generalize Oct.val (b :: r) = n at *
      have hp : 0 < 256 ^ (k - 1) := Nat.pow_pos (by decide)
      have h0 : n ≠ 0 := by omega
      have l1 := Oct.lt_need n h64
      have l2 := Oct.le_need n h64 h0
      have l3 := Oct.need_pos n h64 h0
      rcases Nat.lt_trichotomy (Oct.need n) k with h | h | h
      · have := Nat.pow_le_pow_right (n := 256) (by decide) (show Oct.need n ≤ k - 1 by omega)
        omega
      · exact h
      · have := Nat.pow_le_pow_right (n := 256) (by decide) (show k ≤ Oct.need n - 1 by omega)
        omega
theorem num_inv {l : List UInt8} {n k : Nat} (h : Oct.num? l = some (n, k)) : l = Oct.putL n ++ l.drop k := by
  cases l with
  | nil => cases h
  | cons b r =>
    unfold Oct.num? at h
    simp only at h
    split at h
    · cases h
    · rename_i hc
      simp only [not_or, Nat.not_lt, not_and] at hc
      injection h with h
      injection h with h1 h2
      subst h1 h2
      have ht : (r.take b.toNat).length = b.toNat := by rw [List.length_take]; omega
      have hn := need_val (r.take b.toNat) b.toNat ht hc.1 (fun hp => by
        have := hc.2.2 hp
        cases r with
        | nil => simp at hc; omega
        | cons x r =>
          rw [show b.toNat = (b.toNat - 1) + 1 by omega, List.take_succ_cons]
          exact this)
      unfold Oct.putL
      rw [hn, be_val _ _ ht, Nat.add_comm, List.drop_succ_cons, List.cons_append, List.take_append_drop]
      congr 1
      exact (UInt8.ofNat_toNat).symm
theorem numS_inv {l r : List UInt8} {most : Nat} (h : numS (some l) most = some r) : l = Oct.putL (numV (some l) most) ++ r ∧ numV (some l) most ≤ most := by
  unfold numS at h
  unfold numV
  split at h
  · cases h
  · rename_i hc
    rw [if_neg hc]
    simp only [not_or, Int.not_lt] at hc
    refine ⟨?_, by omega⟩
    unfold longS at h
    unfold longV
    cases hn : Oct.num? l with
    | none => simp [hn] at h
    | some x =>
      simp [hn] at h
      have := num_inv (n := x.1) (k := x.2) hn
      simp [hn]
      rw [h] at this
      exact this
theorem numS_none {st : Option (List UInt8)} {most : Int} {r : List UInt8} (h : numS st most = some r) : ∃ l, st = some l := by
  cases st with
  | none => rw [numS_nil] at h; cases h
  | some l => exact ⟨l, rfl⟩
end Go.Proofs.YtfcocbgdmmeikaaGreatDoor
/-! ## Lines of a journal: no line is bytes 0; a line says what it was made of; what is read of a sector as a line. -/
namespace Go.Proofs.YtfcocbgdmmeikaaGreatDoor
open Go.RowKit Dsk

theorem line_ne (mark : List UInt8) (l : List Nat) : lineB mark l ≠ zeroB := by
  unfold lineB
  obtain ⟨T, hT⟩ : ∃ T, T = sealB ⟨(mark ++ numsL l).toArray⟩ := ⟨_, rfl⟩
  have hs : 4 ≤ T.size := by rw [hT, sealB_size]; omega
  rw [← hT]
  intro e
  by_cases h : (textB T).size ≤ 256
  · have hd := fill_data T h
    have hsz : T.size ≤ 256 := by rw [textB_size] at h; omega
    rw [e] at hd
    have h0 := congrArg (fun l => l.headD 1) hd
    have hz : zeroB.data.toList = 0 :: List.replicate 255 0 := rfl
    rw [hz] at h0
    unfold txtL Oct.putL at h0
    simp only [List.headD_cons, List.cons_append] at h0
    have h1 := Oct.need_byte T.size (by omega)
    rw [← h0] at h1
    have h2 := Oct.need_pos T.size (by omega) (by omega)
    have : (0 : UInt8).toNat = 0 := rfl
    omega
  · have : (fillS T).size = 0 := by unfold fillS; rw [if_neg h]; rfl
    rw [e, zeroB_size] at this
    cases this

/-- A line fits into a sector. -/
def fitsL (mark : List UInt8) (l : List Nat) : Prop := (mark ++ numsL l).length ≤ 240
theorem fits_text {mark : List UInt8} {l : List Nat} (h : fitsL mark l) : (textB (sealB ⟨(mark ++ numsL l).toArray⟩)).size ≤ 256 := by
  have hs : (sealB ⟨(mark ++ numsL l).toArray⟩).size = (mark ++ numsL l).length + 4 := by rw [sealB_size, bytes_size]
  unfold fitsL at h
  rw [textB_size, hs]
  have := Oct.need_le ((mark ++ numsL l).length + 4) (by omega)
  omega
/-- What is read of a sector, behind a mark. -/
def textOf (s : ByteArray) (mark : List UInt8) : Option (List UInt8) :=
  if (copenB (openS s)).data.toList.take mark.length = mark then some ((copenB (openS s)).data.toList.drop mark.length) else none
theorem textOf_line {mark : List UInt8} {l : List Nat} (h : fitsL mark l) : textOf (lineB mark l) mark = some (numsL l) := by
  have e : (copenB (openS (lineB mark l))).data.toList = mark ++ numsL l := by
    unfold lineB
    rw [(open_fill _ (fits_text h)).2, copenB_sealB]
  unfold textOf
  rw [e, List.take_left, if_pos rfl, List.drop_left]
theorem textOf_inv {s : ByteArray} {mark r : List UInt8} (hm : mark ≠ []) (h : textOf s mark = some r) : s = fillS (sealB ⟨(mark ++ r).toArray⟩) ∧ (mark ++ r).length ≤ 256 := by
  unfold textOf at h
  split at h
  · rename_i ht
    injection h with h
    obtain ⟨T, hT⟩ : ∃ T, T = copenB (openS s) := ⟨_, rfl⟩
    rw [← hT] at ht h
    have hTd : T.data.toList = mark ++ r := by rw [← h]; conv => lhs; rw [← List.take_append_drop mark.length T.data.toList, ht]
    have hTs : T = ⟨(mark ++ r).toArray⟩ := by rw [← hTd]
    have hpos : 0 < mark.length := List.length_pos_iff.2 hm
    have hne : 0 < T.size := by rw [Lib.size_eq, hTd, List.length_append]; omega
    have hsealed : sealed (openS s) = true := by
      cases hq : sealed (openS s) with
      | true => rfl
      | false =>
        have : T = ⟨#[]⟩ := by rw [hT]; unfold copenB; rw [hq, if_neg Bool.false_ne_true]
        rw [this] at hne
        exact absurd hne (by decide)
    have h4 : 4 ≤ (openS s).size := by
      unfold sealed at hsealed
      simp only [Bool.and_eq_true, decide_eq_true_eq] at hsealed
      exact hsealed.1
    have hopen : openB s = true := by
      cases hq : openB s with
      | true => rfl
      | false =>
        have : openS s = ⟨#[]⟩ := by unfold openS; rw [hq, if_neg Bool.false_ne_true]
        rw [this] at h4
        exact absurd h4 (by decide)
    have hseal : sealB T = openS s := by
      have := sealed_iff h4
      rw [hsealed, decide_eq_true_eq] at this
      rw [hT]
      unfold copenB
      rw [if_pos hsealed]
      exact this
    have hz := (open_size s hopen).2
    rw [← hTs, hseal]
    refine ⟨hz.2.symm, ?_⟩
    have hf : (textB (openS s)).size ≤ 256 := by
      have h1 := hz.1
      unfold fillE at h1
      split at h1
      · assumption
      · cases h1
    have := fits_small _ hf
    rw [← hseal, sealB_size, Lib.size_eq T, hTd] at this
    omega
  · cases h
theorem numsL_cons (x : Nat) (l : List Nat) : numsL (x :: l) = Oct.putL x ++ numsL l := rfl
theorem put_inj {a b : Nat} {r s : List UInt8} (ha : a < 18446744073709551616) (hb : b < 18446744073709551616) (h : Oct.putL a ++ r = Oct.putL b ++ s) : a = b ∧ r = s := by
  have h1 := Oct.num_put a ha r
  have h2 := Oct.num_put b hb s
  rw [h, h2] at h1
  injection h1 with h1
  injection h1 with h1 _
  subst h1
  exact ⟨rfl, List.append_cancel_left h⟩
theorem numsL_inj : ∀ {a b : List Nat}, a.length = b.length → (∀ x ∈ a, x < 18446744073709551616) → (∀ x ∈ b, x < 18446744073709551616) → ∀ {r s : List UInt8}, numsL a ++ r = numsL b ++ s → a = b ∧ r = s
  | [], [], _, _, _, _, _, h => ⟨rfl, h⟩
  | [], _ :: _, h, _, _, _, _, _ => by simp at h
  | _ :: _, [], h, _, _, _, _, _ => by simp at h
  | x :: a, y :: b, hl, ha, hb, r, s, h => by
    rw [numsL_cons, numsL_cons, List.append_assoc, List.append_assoc] at h
    obtain ⟨e, h'⟩ := put_inj (ha x (by simp)) (hb y (by simp)) h
    subst e
    obtain ⟨e2, h2⟩ := numsL_inj (by simpa using hl) (fun z hz => ha z (by simp [hz])) (fun z hz => hb z (by simp [hz])) h'
    subst e2
    exact ⟨rfl, h2⟩
theorem line_inj {mark : List UInt8} {a b : List Nat} (ha : fitsL mark a) (hb : fitsL mark b) (h : lineB mark a = lineB mark b) : numsL a = numsL b := by
  have h1 := textOf_line ha
  rw [h, textOf_line hb] at h1
  exact (Option.some.inj h1).symm
theorem need_small (n : Nat) (k : Nat) (hn : n < 256 ^ k) (hk : k ≤ 8) : Oct.need n ≤ k := by
  have h64 : n < 18446744073709551616 := Nat.lt_of_lt_of_le hn (Nat.le_trans (Nat.pow_le_pow_right (by decide) hk) (by decide))
  by_cases h0 : n = 0
  · rw [h0, Oct.need_zero]; omega
  · have := Oct.le_need n h64 h0
    rcases Nat.lt_or_ge k (Oct.need n) with h | h
    · have := Nat.pow_le_pow_right (n := 256) (by decide) (show k ≤ Oct.need n - 1 by omega)
      omega
    · exact h
theorem ats_len (l : List Nat) (h : ∀ x ∈ l, x ≤ 65535) : (numsL l).length ≤ 3 * l.length := by
  induction l with
  | nil => simp [numsL]
  | cons x l ih =>
    have h1 := need_small x 2 (by have := h x (by simp); omega) (by decide)
    have h2 := ih fun y hy => h y (List.mem_cons_of_mem _ hy)
    rw [numsL_cons, List.length_append, Oct.putL_length, List.length_cons]
    omega
theorem fits_first {s : Nat} {l : List Nat} (hs : s ≤ 2 ^ 40) (hl : l.length ≤ 60) (h : ∀ x ∈ l, x ≤ 65535) : fitsL [83, 67, 68] (s :: l.length :: l) := by
  unfold fitsL
  have h1 := need_small s 6 (by omega) (by decide)
  have h2 := need_small l.length 1 (by omega) (by decide)
  have h3 := ats_len l h
  rw [List.length_append, numsL_cons, numsL_cons, List.length_append, List.length_append, Oct.putL_length, Oct.putL_length]
  simp only [List.length_cons, List.length_nil]
  omega
theorem fits_two (mark : List UInt8) (hm : mark.length = 3) {p s : Nat} (hp : p ≤ 2 ^ 40) (hs : s ≤ 2 ^ 40) : fitsL mark [p, s] := by
  unfold fitsL
  have h1 := need_small s 6 (by omega) (by decide)
  have h2 := need_small p 6 (by omega) (by decide)
  rw [List.length_append, numsL_cons, numsL_cons, List.length_append, List.length_append, Oct.putL_length, Oct.putL_length, hm]
  show 3 + (1 + Oct.need p + (1 + Oct.need s + 0)) ≤ 240
  omega
/-- The lines of package redo. -/
def RL : Jnl.Lines where
  head := hdL
  first := fsL
  last := lsL
  first_ne s l := line_ne _ _
  last_ne s n := line_ne _ _
  first_inj s s' l l' hs hs' hl hl' ha ha' h := by
    have e := line_inj (fits_first hs hl ha) (fits_first hs' hl' ha') h
    rw [numsL_cons, numsL_cons, numsL_cons, numsL_cons] at e
    obtain ⟨e1, e⟩ := put_inj (by omega) (by omega) e
    obtain ⟨e2, e⟩ := put_inj (by omega) (by omega) e
    have := numsL_inj (r := []) (s := []) e2 (fun x hx => by have := ha x hx; omega) (fun x hx => by have := ha' x hx; omega) (by rw [e])
    exact ⟨e1, this.1⟩
theorem line_size {mark : List UInt8} {l : List Nat} (h : fitsL mark l) : (lineB mark l).size = 256 := fillS_size _ (fits_text h)
end Go.Proofs.YtfcocbgdmmeikaaGreatDoor
/-! ## What a look through a journal's slots finds, as the program looks: heads and first lines that are read, transactions, rows of them. No walk. -/
namespace Go.Proofs.YtfcocbgdmmeikaaGreatDoor
open Go.RowKit Dsk

/-- A scanner behind k numbers. -/
def afK (st : Option (List UInt8)) (most : Int) : Nat → Option (List UInt8)
  | 0 => st
  | k + 1 => numS (afK st most k) most
/-- k numbers of a scanner. -/
def nmK (st : Option (List UInt8)) (most : Int) (k : Nat) : List Nat := (List.range k).map fun i => numV (afK st most i) most
theorem nmK_succ (st : Option (List UInt8)) (most : Int) (k : Nat) : nmK st most (k + 1) = nmK st most k ++ [numV (afK st most k) most] := by simp [nmK, List.range_succ]
theorem nmK_len (st : Option (List UInt8)) (most : Int) (k : Nat) : (nmK st most k).length = k := by simp [nmK]
theorem numV_most (st : Option (List UInt8)) (most : Nat) : numV st most ≤ most := by
  unfold numV
  split
  · omega
  · rename_i h
    simp only [not_or, Int.not_lt] at h
    omega
theorem nmK_le (st : Option (List UInt8)) (most k : Nat) : ∀ x ∈ nmK st most k, x ≤ most := by
  intro x hx
  unfold nmK at hx
  obtain ⟨i, _, rfl⟩ := List.mem_map.1 hx
  exact numV_most _ _
theorem numsL_append (a b : List Nat) : numsL (a ++ b) = numsL a ++ numsL b := List.flatMap_append
theorem numsL_one (x : Nat) : numsL [x] = Oct.putL x := by simp [numsL]
theorem afK_inv {st : Option (List UInt8)} {most : Nat} : ∀ {k : Nat} {r : List UInt8}, afK st most k = some r → st = some (numsL (nmK st most k) ++ r)
  | 0, r, h => h
  | k + 1, r, h => by
    have h' : numS (afK st most k) most = some r := h
    obtain ⟨l, hl⟩ := numS_none h'
    rw [hl] at h'
    have h1 := (numS_inv h').1
    have h2 := afK_inv hl
    rw [nmK_succ, numsL_append, numsL_one, hl, List.append_assoc, ← h1]
    exact h2
theorem afK_put {l : List Nat} {most : Nat} (hm : most < 18446744073709551616) (hl : ∀ x ∈ l, x ≤ most) (r : List UInt8) : ∀ k, k ≤ l.length → afK (some (numsL l ++ r)) most k = some (numsL (l.drop k) ++ r) ∧ nmK (some (numsL l ++ r)) most k = l.take k
  | 0, _ => ⟨by simp [afK], by simp [nmK]⟩
  | k + 1, h => by
    obtain ⟨h1, h2⟩ := afK_put hm hl r k (by omega)
    have e : l.drop k = l[k] :: l.drop (k + 1) := List.drop_eq_getElem_cons (by omega)
    have hle := hl l[k] (List.getElem_mem _)
    have hn : ¬ ((most : Int) < 0 ∨ (most : Int) < (l[k] : Nat)) := by omega
    rw [e, numsL_cons, List.append_assoc] at h1
    refine ⟨?_, ?_⟩
    · show numS (afK _ most k) most = _
      rw [h1, numS_put _ (by omega) _ _ hn]
    · rw [nmK_succ, h1, h2, numV_put _ (by omega) _ _ hn, List.take_succ_eq_append_getElem (by omega)]
theorem endV_iff (st : Option (List UInt8)) : endV st = 0 ↔ st = some [] := by
  unfold endV
  split
  · rename_i h; exact ⟨fun _ => h, fun _ => rfl⟩
  · rename_i h; exact ⟨fun e => absurd e (by decide), fun e => absurd e h⟩

/-! ### First lines -/
def f0 (x : ByteArray) : Option (List UInt8) := textOf x [83, 67, 68]
def fFound (x : ByteArray) : Nat := numV (f0 x) (1099511627776 : Nat)
def f1 (x : ByteArray) : Option (List UInt8) := numS (f0 x) (1099511627776 : Nat)
def fN (x : ByteArray) : Nat := numV (f1 x) (60 : Nat)
def f2 (x : ByteArray) : Option (List UInt8) := numS (f1 x) (60 : Nat)
/-- The sectors that a first line tells of. -/
def fAt (x : ByteArray) : List Nat := nmK (f2 x) (65535 : Nat) (fN x)
/-- Is it the first line of the transaction s? -/
def fOk (x : ByteArray) (s : Nat) : Bool := decide (endV (afK (f2 x) (65535 : Nat) (fN x)) = 0) && decide (fFound x = s) && decide (1 ≤ fN x)
theorem fN_le (x : ByteArray) : fN x ≤ 60 := numV_most _ _
theorem fAt_len (x : ByteArray) : (fAt x).length = fN x := nmK_len _ _ _
theorem fAt_le (x : ByteArray) : ∀ a ∈ fAt x, a ≤ 65535 := nmK_le _ _ _
theorem fOk_inv {x : ByteArray} {s : Nat} (h : fOk x s = true) : x = fsL s (fAt x) ∧ 1 ≤ fN x := by
  unfold fOk at h
  simp only [Bool.and_eq_true, decide_eq_true_eq] at h
  obtain ⟨⟨he, hf⟩, hn⟩ := h
  refine ⟨?_, hn⟩
  have h2 := afK_inv ((endV_iff _).1 he)
  rw [List.append_nil] at h2
  have h2' : numS (f1 x) (60 : Nat) = some (numsL (fAt x)) := h2
  obtain ⟨l1, e1⟩ := numS_none h2'
  rw [e1] at h2'
  have i1 := (numS_inv h2').1
  have e1' : numS (f0 x) (1099511627776 : Nat) = some l1 := e1
  obtain ⟨l0, e0⟩ := numS_none e1'
  rw [e0] at e1'
  have i0 := (numS_inv e1').1
  have hx := (textOf_inv (by decide) e0).1
  have n1 : numV (some l1) (60 : Nat) = (fAt x).length := by rw [fAt_len, ← e1]; rfl
  have n0 : numV (some l0) (1099511627776 : Nat) = s := by rw [← hf, ← e0]; rfl
  rw [n1] at i1
  rw [n0, i1] at i0
  refine hx.trans ?_
  rw [i0]
  unfold fsL lineB
  rw [numsL_cons, numsL_cons]
theorem fOk_line {s : Nat} {l : List Nat} (hs : s ≤ 1099511627776) (h1 : 1 ≤ l.length) (h60 : l.length ≤ 60) (hl : ∀ a ∈ l, a ≤ 65535) : fOk (fsL s l) s = true ∧ fAt (fsL s l) = l ∧ fN (fsL s l) = l.length := by
  have e0 : f0 (fsL s l) = some (numsL (s :: l.length :: l)) := textOf_line (fits_first hs h60 hl)
  have e1 : f1 (fsL s l) = some (numsL (l.length :: l)) := by
    unfold f1
    rw [e0, numsL_cons]
    exact numS_put _ (by omega) _ _ (by omega)
  have ef : fFound (fsL s l) = s := by
    unfold fFound
    rw [e0, numsL_cons]
    exact numV_put _ (by omega) _ _ (by omega)
  have en : fN (fsL s l) = l.length := by
    unfold fN
    rw [e1, numsL_cons]
    exact numV_put _ (by omega) _ _ (by omega)
  have e2 : f2 (fsL s l) = some (numsL l) := by
    unfold f2
    rw [e1, numsL_cons]
    exact numS_put _ (by omega) _ _ (by omega)
  have ha := afK_put (l := l) (most := 65535) (by decide) hl [] l.length (Nat.le_refl _)
  rw [List.append_nil] at ha
  refine ⟨?_, ?_, en⟩
  · unfold fOk
    rw [e2, en, ef, ha.1]
    simp [endV, numsL]
    omega
  · unfold fAt
    rw [e2, en, ha.2, List.take_length]

/-! ### Heads -/
def hP (x : ByteArray) (m : Nat) : Nat := numV (textOf x [83, 67, 72]) ((m - 1 : Nat) : Int)
def hS (x : ByteArray) (m : Nat) : Nat := numV (numS (textOf x [83, 67, 72]) ((m - 1 : Nat) : Int)) (549755813888 : Nat)
def hE (x : ByteArray) (m : Nat) : Option (List UInt8) := numS (numS (textOf x [83, 67, 72]) ((m - 1 : Nat) : Int)) (549755813888 : Nat)
def hOk (x : ByteArray) (m : Nat) : Bool := decide (endV (hE x m) = 0) && decide (1 ≤ hS x m)
theorem hP_lt (x : ByteArray) {m : Nat} (h : 0 < m) : hP x m < m := by have := numV_most (textOf x [83, 67, 72]) (m - 1); unfold hP; omega
theorem hS_le (x : ByteArray) (m : Nat) : hS x m ≤ 549755813888 := numV_most _ _
theorem hOk_line {p s m : Nat} (hm : m ≤ 65535) (hp : p < m) (h1 : 1 ≤ s) (hs : s ≤ 549755813888) : hOk (hdL p s) m = true ∧ hP (hdL p s) m = p ∧ hS (hdL p s) m = s := by
  have e0 : textOf (hdL p s) [83, 67, 72] = some (Oct.putL p ++ (Oct.putL s ++ [])) := textOf_line (fits_two _ rfl (by omega) (by omega))
  have e1 : numS (textOf (hdL p s) [83, 67, 72]) ((m - 1 : Nat) : Int) = some (Oct.putL s ++ []) := by rw [e0]; exact numS_put _ (by omega) _ _ (by omega)
  have ep : hP (hdL p s) m = p := by unfold hP; rw [e0]; exact numV_put _ (by omega) _ _ (by omega)
  have es : hS (hdL p s) m = s := by unfold hS; rw [e1]; exact numV_put _ (by omega) _ _ (by omega)
  refine ⟨?_, ep, es⟩
  unfold hOk hE
  rw [es, e1, numS_put _ (by omega) _ _ (by omega)]
  simp [endV]
  omega

/-! ### Transactions -/
attribute [local irreducible] fOk fN fAt fsL lsL
/-- The transaction s that lies at p, of no more slots than are left. -/
def txF (R : Nat → ByteArray) (m p s left : Nat) : Option Jnl.Txn :=
  if fOk (R (p % m)) s && decide (fN (R (p % m)) + 2 ≤ left) && decide (R ((p + (fN (R (p % m)) + 1)) % m) = lsL s (fN (R (p % m)))) then
    some ((List.range (fN (R (p % m)))).map fun i => ((fAt (R (p % m))).getD i 0, R ((p + (1 + i)) % m))) else none
theorem txF_mod (R : Nat → ByteArray) (m p s left : Nat) : txF R m (p % m) s left = txF R m p s left := by
  unfold txF
  simp only [Nat.mod_mod, Nat.mod_add_mod]
theorem range_map_getD (l : List Nat) (n : Nat) (h : n = l.length) : (List.range n).map (fun i => l.getD i 0) = l := by
  subst h
  apply List.ext_getElem
  · simp
  · intro i h1 h2
    simp [List.getD_eq_getElem?_getD, h2]
theorem txF_some {R : Nat → ByteArray} {m p s left : Nat} {t : Jnl.Txn} (h : txF R m p s left = some t) : Jnl.TxAt RL R m p s t ∧ t.length + 2 ≤ left := by
  unfold txF at h
  split at h
  · rename_i hc
    simp only [Bool.and_eq_true, decide_eq_true_eq] at hc
    obtain ⟨⟨h1, h2⟩, h3⟩ := hc
    injection h with h
    generalize hx : R (p % m) = x at *
    obtain ⟨e1, e2⟩ := fOk_inv h1
    have hl : t.length = fN x := by rw [← h]; simp
    have hf : t.map Prod.fst = fAt x := by
      rw [← h, List.map_map]
      refine Eq.trans ?_ (range_map_getD (fAt x) (fN x) (fAt_len x).symm)
      exact List.map_congr_left fun i _ => rfl
    refine ⟨⟨by omega, by rw [hl]; exact fN_le x, fun y hy => fAt_le x _ (by rw [← hf]; exact List.mem_map_of_mem hy), ?_, fun i hi => ?_, ?_⟩, by omega⟩
    · rw [hf, hx]; exact e1
    · subst h
      simp [Nat.add_assoc]
    · rw [hl, Nat.add_assoc]; exact h3
  · cases h
theorem txF_of {R : Nat → ByteArray} {m p s left : Nat} {t : Jnl.Txn} (hs : s ≤ 1099511627776) (h : Jnl.TxAt RL R m p s t) (hl : t.length + 2 ≤ left) : txF R m p s left = some t := by
  have hm : ∀ a ∈ t.map Prod.fst, a ≤ 65535 := by
    intro a ha
    obtain ⟨y, hy, rfl⟩ := List.mem_map.1 ha
    exact h.ats y hy
  obtain ⟨e1, e2, e3⟩ := fOk_line hs (by rw [List.length_map]; exact h.pos) (by rw [List.length_map]; exact h.most) hm
  have ex : R (p % m) = fsL s (t.map Prod.fst) := h.fst
  rw [List.length_map] at e3
  unfold txF
  rw [ex, e1, e2, e3, if_pos]
  · congr 1
    apply List.ext_getElem
    · simp
    · intro i h1 h2
      have := h.mid i h2
      rw [Nat.add_assoc] at this
      simp only [List.getElem_map, List.getElem_range]
      rw [this]
      simp [List.getD_eq_getElem?_getD, h2]
  · have := h.lst
    rw [Nat.add_assoc] at this
    simp only [Bool.and_eq_true, decide_eq_true_eq]
    exact ⟨⟨trivial, hl⟩, this⟩

attribute [local irreducible] txF
/-- Transactions that lie one behind the other from p on, of no more slots than are left. -/
def Path (R : Nat → ByteArray) (m : Nat) : Nat → Nat → Nat → List Jnl.Txn → Prop
  | _, _, _, [] => True
  | p, s, left, t :: l => txF R m p s left = some t ∧ Path R m (p + (t.length + 2)) (s + 1) (left - (t.length + 2)) l
theorem Path.snoc {R : Nat → ByteArray} {m : Nat} : ∀ {l : List Jnl.Txn} {p s left : Nat} {t : Jnl.Txn}, Path R m p s left l → txF R m (p + Jnl.slots l) (s + l.length) (left - Jnl.slots l) = some t → Path R m p s left (l ++ [t])
  | [], _, _, _, _, _, k => ⟨k, trivial⟩
  | u :: l, p, s, left, t, h, k => by
    refine ⟨h.1, Path.snoc h.2 ?_⟩
    unfold Jnl.slots at k
    rw [List.length_cons] at k
    rw [show p + (u.length + 2) + Jnl.slots l = p + (u.length + 2 + Jnl.slots l) by omega, show s + 1 + l.length = s + (l.length + 1) by omega, Nat.sub_sub]
    exact k
theorem Path.room {R : Nat → ByteArray} {m : Nat} : ∀ {l : List Jnl.Txn} {p s left : Nat}, Path R m p s left l → Jnl.slots l ≤ left
  | [], _, _, _, _ => Nat.zero_le _
  | u :: l, p, s, left, h => by
    have h1 := (txF_some h.1).2
    have h2 := h.2.room
    unfold Jnl.slots
    omega
theorem slots_ge : ∀ (l : List Jnl.Txn), 2 * l.length ≤ Jnl.slots l
  | [] => Nat.le_refl _
  | t :: l => by have := slots_ge l; unfold Jnl.slots; rw [List.length_cons]; omega
/-- What a look finds. -/
def Found (R : Nat → ByteArray) (m p s : Nat) (l : List Jnl.Txn) : Prop := Path R m p s m l ∧ txF R m (p + Jnl.slots l) (s + l.length) (m - Jnl.slots l) = none
theorem Path.one {R : Nat → ByteArray} {m : Nat} : ∀ {l l' : List Jnl.Txn} {p s left : Nat}, Path R m p s left l → Path R m p s left l' → txF R m (p + Jnl.slots l) (s + l.length) (left - Jnl.slots l) = none → txF R m (p + Jnl.slots l') (s + l'.length) (left - Jnl.slots l') = none → l = l'
  | [], [], _, _, _, _, _, _, _ => rfl
  | [], t :: l, p, s, left, _, h', k, _ => by
    have k' : txF R m p s left = none := k
    have h2 := h'.1
    rw [k'] at h2
    cases h2
  | t :: l, [], p, s, left, h, _, _, k => by
    have k' : txF R m p s left = none := k
    have h2 := h.1
    rw [k'] at h2
    cases h2
  | t :: l, t' :: l', p, s, left, h, h', k, k' => by
    have e : t = t' := Option.some.inj (h.1.symm.trans h'.1)
    subst e
    unfold Jnl.slots at k k'
    rw [List.length_cons] at k k'
    have e1 : ∀ n, p + (t.length + 2 + n) = p + (t.length + 2) + n := fun n => by omega
    have e2 : ∀ n, s + (n + 1) = s + 1 + n := fun n => by omega
    rw [e1, e2, ← Nat.sub_sub] at k k'
    rw [Path.one h.2 h'.2 k k']
theorem Found.one {R : Nat → ByteArray} {m p s : Nat} {l l' : List Jnl.Txn} (h : Found R m p s l) (h' : Found R m p s l') : l = l' := h.1.one h'.1 h.2 h'.2
theorem row_path {R : Nat → ByteArray} {m : Nat} : ∀ {l : List Jnl.Txn} {p s left : Nat}, s + l.length ≤ 1099511627776 → Jnl.Row RL R m p s l → Jnl.slots l ≤ left → Path R m p s left l
  | [], _, _, _, _, _, _ => trivial
  | t :: l, p, s, left, hs, h, hl => by
    unfold Jnl.slots at hl
    rw [List.length_cons] at hs
    refine ⟨txF_of (by omega) h.1 (by omega), row_path (by omega) ?_ (by omega)⟩
    exact h.2
theorem good_found {G : Jnl.Geo} {L S : Jnl.Im} {q p s : Nat} {txs : List Jnl.Txn} (h : Jnl.Good RL G L S q p s txs) (hq : q ≤ 1099511627776) : Found (G.R L) G.m p s txs := by
  have h0 := h.room
  refine ⟨row_path (by have := h.lq; omega) h.row (by omega), ?_⟩
  cases e : txF (G.R L) G.m (p + Jnl.slots txs) (s + txs.length) (G.m - Jnl.slots txs) with
  | none => rfl
  | some t =>
    have := (txF_some e).1
    rw [h.lq] at this
    exact absurd this (h.ends t)
end Go.Proofs.YtfcocbgdmmeikaaGreatDoor
