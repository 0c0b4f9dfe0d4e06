/-
  Several texts in one (ShaLaw, LeafLaw).
-/
import Derived.Test.YtollcdalokhjaaaDoorMArg
import Derived.Lib.LaidTab
import Derived.SevenTiedAt
import Derived.Test.YtollcdalokhjaaaDoorTie
import Derived.Test.YtollcdalokhjaaaDoorCards
import Derived.Test.YtollcdalokhjaaaDoorMShaB
import Derived.Test.YtollcdalokhjaaaDoorMLeafB
/-! ## The last step of every law: the call answered true and turned nothing that was there: so each argument reads as it did. For any parameters. -/
namespace Go.Proofs.YtollcdalokhjaaaDoor
open Go.ChangeShapes Go.WideShapes Go.ChangeAt Go.RowKit
/-! ### The numbers K, out of the row's own condition -/
theorem gK : Tryd.prog.globalNamed "scrinium/sha.k" = some 0 := by kernel_rfl
theorem gKt : (Tryd.prog.globals[0]?).map (·.type) = some 132 := by kernel_rfl
theorem laid_eq : (Rows.laid_scrinium_sha_k : DataW Unit) = Lib.tabData .u32 (Sha.K.map Int.ofNat) := by kernel_rfl
theorem KT_of_laid {W : World} (h : laidMetH Tryd.prog [("scrinium/sha.k", Rows.laid_scrinium_sha_k)] W) : KT W := by
  rw [MakeChecks.laidMetH_plain _ _ _ (by kernel_rfl), laid_eq] at h
  have hT := Lib.tabIs_of_head gK gKt Tryd.underlying132 Tryd.underlying111 (by kernel_rfl) (by kernel_rfl) h
  intro i hi
  have hl : Sha.K.length = 64 := by decide
  have := hT.cell gK i (by rw [List.length_map, hl]; exact hi)
  rw [this]
  congr 2
  simp [hl, hi]
theorem door_met (os : Os) (args : Array Value) : laidMetH Tryd.prog [("scrinium/sha.k", Rows.laid_scrinium_sha_k)] ((World.doorLaid Tryd.prog 400 os).forCall (fun _ _ => 0) ⟨#[], args, []⟩).memory :=
  laidMetH_of_parts3 (fuel := 8) (laidMet_of_run' 8 (by kernel_rfl) (by kernel_rfl)) (by kernel_rfl) (by kernel_rfl)

/-! ### Arguments that are arrays of numbers -/
section
variable {H : Type} {enc : TypeId × Value → H} {W : World} {r : Reach} {b0 : Nat} {v : Value} {d : DataW H} {ps : List MemPlace}
set_option maxRecDepth 100000 in
theorem open_sum (hv : Value.okWide Tryd.prog W r b0 33 v) (h : DataW.Trod enc Tryd.prog W 0 (fun _ => true) true 33 v d ps) : ∃ bs : List UInt8, v = sumV bs ∧ bs.length = 32 := by
  obtain ⟨l, rfl, hl, hw⟩ := int_array Tryd.underlying33 Tryd.underlying5 (by kernel_rfl) (by kernel_rfl) hv h
  obtain ⟨bs, h1, h2⟩ := u8_list l hw
  exact ⟨bs, by rw [h1]; rfl, h2.trans hl⟩
set_option maxRecDepth 100000 in
theorem open_64 (hv : Value.okWide Tryd.prog W r b0 125 v) (h : DataW.Trod enc Tryd.prog W 0 (fun _ => true) true 125 v d ps) : ∃ bs : List UInt8, v = .agg (bs.map u8V).toArray ∧ bs.length = 64 := by
  obtain ⟨l, rfl, hl, hw⟩ := int_array Tryd.underlying125 Tryd.underlying5 (by kernel_rfl) (by kernel_rfl) hv h
  obtain ⟨bs, h1, h2⟩ := u8_list l hw
  exact ⟨bs, by rw [h1], h2.trans hl⟩
set_option maxRecDepth 100000 in
theorem open_8 (hv : Value.okWide Tryd.prog W r b0 112 v) (h : DataW.Trod enc Tryd.prog W 0 (fun _ => true) true 112 v d ps) : ∃ V : Sha.V, v = .agg (vC V) ∧ V.ok := by
  obtain ⟨l, rfl, hl, hw⟩ := int_array Tryd.underlying112 Tryd.underlying111 (by kernel_rfl) (by kernel_rfl) hv h
  obtain ⟨bs, h1, h2, h3⟩ := u32_list l hw
  rw [h1]
  rw [hl] at h2
  match bs, h2 with
  | [a, b, c, d, e, f, g, k], _ =>
    refine ⟨⟨a, b, c, d, e, f, g, k⟩, rfl, ?_⟩
    simp only [List.mem_cons, List.not_mem_nil, or_false] at h3
    exact ⟨h3 a (by simp), h3 b (by simp), h3 c (by simp), h3 d (by simp), h3 e (by simp), h3 f (by simp), h3 g (by simp), h3 k (by simp)⟩
set_option maxRecDepth 100000 in
theorem open_16 (hv : Value.okWide Tryd.prog W r b0 114 v) (h : DataW.Trod enc Tryd.prog W 0 (fun _ => true) true 114 v d ps) : ∃ B : List Nat, v = .agg (bC B) ∧ B.length = 16 ∧ ∀ x ∈ B, x < 4294967296 := by
  obtain ⟨l, rfl, hl, hw⟩ := int_array Tryd.underlying114 Tryd.underlying111 (by kernel_rfl) (by kernel_rfl) hv h
  obtain ⟨bs, h1, h2, h3⟩ := u32_list l hw
  exact ⟨bs, by rw [h1]; rfl, h2.trans hl, h3⟩
end
end Go.Proofs.YtollcdalokhjaaaDoor
/-! ## What the laws of layer leaf want besides: bits of a power of two, an argument of four hashes. -/
namespace Go.Proofs.YtollcdalokhjaaaDoor
open Go.RowKit Go.ChangeShapes Go.WideShapes Go.ChangeAt

theorem pow_and (i : Nat) : (2 ^ i) &&& (2 ^ i - 1) = 0 := by rw [Nat.and_two_pow_sub_one_eq_mod]; simp
theorem split_is_pow {n : Nat} (h : 2 ≤ n) : ∃ i, Tree.split n = 2 ^ i := ⟨_, Tree.split_big h⟩
theorem and_maskL (n : Int) (j : Nat) (m : Int) (hj : j < 63) (hm : (BitVec.ofInt 64 m).toNat = 2 ^ j - 1) : bits .and .i64 n m = n % ((2 ^ j : Nat) : Int) := by
  have key : (BitVec.ofInt 64 n &&& BitVec.ofInt 64 m).toNat = (n % ((2 ^ 64 : Nat) : Int)).toNat % 2 ^ j := by
    rw [BitVec.toNat_and, BitVec.toNat_ofInt, hm, Nat.and_two_pow_sub_one_eq_mod]
  show IntKind.i64.wrap ((BitVec.ofInt 64 n &&& BitVec.ofInt 64 m).toNat : Nat) = n % ((2 ^ j : Nat) : Int)
  have hp : (2 : Nat) ^ j ≤ 2 ^ 62 := Nat.pow_le_pow_right (by decide) (by omega)
  have hpos : 0 < 2 ^ j := Nat.pow_pos (by decide)
  have hd : (2 : Nat) ^ j ∣ 2 ^ 64 := Nat.pow_dvd_pow 2 (by omega)
  have e1 : ((n % ((2 ^ 64 : Nat) : Int)).toNat % 2 ^ j : Nat) = (n % ((2 ^ j : Nat) : Int)).toNat := by
    have h0 := Int.emod_nonneg n (show ((2 ^ 64 : Nat) : Int) ≠ 0 by decide)
    have h1 := Int.emod_nonneg n (show ((2 ^ j : Nat) : Int) ≠ 0 by omega)
    have : (((n % ((2 ^ 64 : Nat) : Int)).toNat % 2 ^ j : Nat) : Int) = n % ((2 ^ j : Nat) : Int) := by
      rw [Int.natCast_emod, Int.toNat_of_nonneg h0, Int.emod_emod_of_dvd n (Int.natCast_dvd_natCast.2 hd)]
    omega
  rw [key, e1]
  have h1 := Int.emod_nonneg n (show ((2 ^ j : Nat) : Int) ≠ 0 by omega)
  have h2 := Int.emod_lt_of_pos n (show (0 : Int) < ((2 ^ j : Nat) : Int) by omega)
  rw [Int.toNat_of_nonneg h1]
  exact IntWalk.i64_in _ (by omega)
theorem and_pow (i : Nat) (hi : i < 63) (w : World) : (binOp .and 3 (.int .i64 ((2 ^ i : Nat) : Int)) (.int .i64 (((2 ^ i : Nat) : Int) - 1))).run Tryd.prog w = .ok (.int .i64 0) w := by
  obtain ⟨P, hP⟩ : ∃ P : Nat, P = 2 ^ i := ⟨_, rfl⟩
  have hp : 0 < P := by rw [hP]; exact Nat.two_pow_pos i
  have hlt : P < 9223372036854775808 := by rw [hP]; exact Nat.lt_of_le_of_lt (Nat.pow_le_pow_right (by decide) (show i ≤ 62 by omega)) (by decide)
  have hb : bits .and .i64 (P : Int) ((P : Int) - 1) = 0 := by
    rw [show (P : Int) - 1 = ((P - 1 : Nat) : Int) by omega, and_maskL (P : Int) i ((P - 1 : Nat) : Int) hi (by rw [BitVec.ofInt_natCast, BitVec.toNat_ofNat, Nat.mod_eq_of_lt (by omega), hP]), hP]
    simp
  rw [← hP]
  clear hP
  go_simp
theorem eql_sum_tt (a b : List UInt8) (ha : a.length = 32) (hb : b.length = 32) (h : a = b) (w : World) : (binOp .eql 33 (sumV a) (sumV b)).run Tryd.prog w = .ok (.bool true) w := by
  have := eql_sum a b ha hb w
  rwa [decide_eq_true h] at this
theorem levels_head (l : Hs) : (Tree.levels l)[0]? = some l := by
  by_cases h : l.length ≤ 1
  · rw [Tree.levels_small h]; rfl
  · rw [Tree.levels_go (by omega)]; rfl
theorem levels_at {L : List Hs} {i : Nat} {cur : Hs} (h : L.drop i = Tree.levels cur) : L[i]? = some cur := by
  have := levels_head cur
  rw [← h] at this
  simpa using this
theorem levels_few (l : Hs) (h : l.length ≤ 20) : (Tree.levels l).length ≤ 9223372036854775800 := by
  suffices hh : ∀ n (l : Hs), l.length ≤ n → (Tree.levels l).length ≤ n + 1 by have := hh 20 l h; omega
  intro n
  induction n with
  | zero => intro l h; rw [Tree.levels_small (by omega)]; simp
  | succ n ih =>
    intro l h
    by_cases h1 : l.length ≤ 1
    · rw [Tree.levels_small h1]; simp
    · have hu := Tree.up_length l
      rw [Tree.levels_go (by omega), List.length_cons]
      have := ih (Tree.up l) (by omega)
      omega
/-- The last row is the root's; of no leaves it has none. -/
theorem levels_last (n : Nat) : ∀ l : Hs, l.length ≤ n → ∃ L, Tree.levels l = L ++ [if l.length = 0 then [] else [Tree.root l]] := by
  induction n with
  | zero =>
    intro l h
    obtain rfl : l = [] := List.eq_nil_of_length_eq_zero (by omega)
    exact ⟨[], rfl⟩
  | succ n ih =>
    intro l h
    match l, h with
    | [], _ => exact ⟨[], rfl⟩
    | [x], _ => exact ⟨[], rfl⟩
    | a :: b :: r, h =>
      obtain ⟨l, hl⟩ : ∃ l, l = a :: b :: r := ⟨_, rfl⟩
      rw [← hl] at h ⊢
      have h2 : 2 ≤ l.length := by rw [hl]; simp
      have hu := Tree.up_length l
      obtain ⟨L, hL⟩ := ih (Tree.up l) (by omega)
      refine ⟨l :: L, ?_⟩
      rw [Tree.levels_go h2, hL, if_neg (by omega), if_neg (by omega), Tree.root_up _ l (Nat.le_refl _)]
      rfl
theorem neq_sum_ff (a b : List UInt8) (ha : a.length = 32) (hb : b.length = 32) (h : a = b) (w : World) : (binOp .neq 33 (sumV a) (sumV b)).run Tryd.prog w = .ok (.bool false) w := by
  have := neq_sum a b ha hb w
  rwa [decide_eq_true h] at this
/-- As many as a power of two. -/
theorem root_halves (l : Hs) (k : Nat) (h : 2 * 2 ^ k ≤ l.length) : Tree.root (l.take (2 * 2 ^ k)) = Tree.node (Tree.root (l.take (2 ^ k))) (Tree.root ((l.drop (2 ^ k)).take (2 ^ k))) := by
  have hp := Nat.two_pow_pos k
  have hlen : (l.take (2 * 2 ^ k)).length = 2 * 2 ^ k := by rw [List.length_take]; omega
  have hs : Tree.split (2 * 2 ^ k) = 2 ^ k := by
    have := Tree.split_pow k
    rwa [Nat.pow_succ, Nat.mul_comm] at this
  rw [Tree.root_go _ (by omega), hlen, hs, List.take_take, Nat.min_eq_left (by omega), List.drop_take, show 2 * 2 ^ k - 2 ^ k = 2 ^ k by omega]
theorem pre_inj {a b c d : List UInt8} (h1 : a.length = c.length) : Tree.pre a b = Tree.pre c d ↔ a = c ∧ b = d := by
  unfold Tree.pre
  constructor
  · intro h
    injection h with _ h
    exact List.append_inj h h1
  · rintro ⟨rfl, rfl⟩; rfl
theorem neq_str_t (a b : ByteArray) (h : a ≠ b) (w : World) : (binOp .neq 9 (.string a) (.string b)).run Tryd.prog w = .ok (.bool true) w := by
  have hl : (a.toList == b.toList) = false := by
    have : a.toList ≠ b.toList := fun e => h (by rw [Lib.toList_data, Lib.toList_data] at e; exact ByteArray.ext (Array.toList_inj.1 e))
    simpa using this
  go_simp
/-- Rows that are there: where they lie. -/
theorem RowsAt.open_ {B : Nat} {w : World} {v : Value} {vs : List Value} {ls : List Hs} (h : RowsAt B w v vs ls) (hne : 0 < vs.length) : ∃ g cap, v = .slice (some ⟨g, 0, none⟩) vs.length cap ∧ B ≤ g ∧ g < w.heap.size ∧ ∀ (j : Nat) (x : Value), vs[j]? = some x → w.cell? ⟨g, j, none⟩ = some x := by
  have h0 := h.own
  rcases h0.2 with ⟨rfl, e⟩ | ⟨g, cap, cur, rfl, hB, hg, _⟩
  · omega
  · refine ⟨g, cap, rfl, hB, (Array.getElem?_eq_some_iff.1 hg).1, fun j x hx => ?_⟩
    have := World.ownsRow.cells h0 (g := g) rfl j x hx
    rw [Addr.add_mid, Nat.zero_add] at this
    exact this
theorem RowsAt.at_ {B : Nat} {w : World} {v : Value} {vs : List Value} {ls : List Hs} (h : RowsAt B w v vs ls) {i : Nat} {l : Hs} (hl : ls[i]? = some l) : ∃ x, vs[i]? = some x ∧ OwnS B w x l := by
  have hi : i < vs.length := by rw [h.len]; exact (List.getElem?_eq_some_iff.1 hl).1
  exact ⟨vs[i], List.getElem?_eq_getElem hi, h.row i _ l (List.getElem?_eq_getElem hi) hl⟩
theorem load_sumsl {b o : Nat} {x : Option Addr} {n c : Nat} {w : World} (h0 : w.cell? ⟨b, o, none⟩ = some (.slice x n c)) : (Instr.loadAt 27 (.pointer (some ⟨b, o, none⟩))).run Tryd.prog w = .ok (.slice x n c) w := by
  go_simp
end Go.Proofs.YtollcdalokhjaaaDoor
