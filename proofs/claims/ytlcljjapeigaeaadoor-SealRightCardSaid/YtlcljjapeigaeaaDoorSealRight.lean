/-
  SealRight: what is signed by a key is right by it, if it may be; with a Mac of which any bits are turned it is not. For every key (of a longer one the first 100 bytes), every head and stone, any bits; the numbers K of the package sha are as the program's own start lays them.
-/
import Derived.Test.YtlcljjapeigaeaaDoorSelLaw
namespace Go.Proofs.YtlcljjapeigaeaaDoor.sealRight
open Go.ChangeShapes Go.WideShapes Go.ChangeAt Go.RowKit

/-- Two hashes, byte by byte. -/
def xorD (a b : List UInt8) : List UInt8 := List.zipWith (fun x y => x ^^^ y) a b
theorem xorD_length (a b : List UInt8) (ha : a.length = 32) (hb : b.length = 32) : (xorD a b).length = 32 := by simp [xorD, ha, hb]
def mix (a b : List UInt8) (i : Nat) : List UInt8 := (xorD a b).take i ++ a.drop i
theorem mix_length (a b : List UInt8) (i : Nat) (ha : a.length = 32) (hb : b.length = 32) (hi : i ≤ 32) : (mix a b i).length = 32 := by
  simp only [mix, List.length_append, List.length_take, List.length_drop, xorD_length a b ha hb, ha]; omega
theorem mix_0 (a b : List UInt8) : mix a b 0 = a := by simp [mix]
theorem mix_32 (a b : List UInt8) (ha : a.length = 32) (hb : b.length = 32) : mix a b 32 = xorD a b := by
  rw [mix, List.take_of_length_le (by rw [xorD_length a b ha hb]; exact Nat.le_refl _), List.drop_eq_nil_of_le (by omega), List.append_nil]
theorem mix_at (a b : List UInt8) (i : Nat) (ha : a.length = 32) (hb : b.length = 32) (hi : i < 32) : (mix a b i)[i]? = some (a.getD i 0) := by
  rw [mix, List.getElem?_append_right (by rw [List.length_take, xorD_length a b ha hb]; omega), List.length_take, xorD_length a b ha hb, Nat.min_eq_left (by omega), Nat.sub_self, List.getElem?_drop, Nat.add_zero, List.getElem?_eq_getElem (by omega), List.getD_eq_getElem?_getD, List.getElem?_eq_getElem (by omega)]
  rfl
theorem mix_step (a b : List UInt8) (i : Nat) (ha : a.length = 32) (hb : b.length = 32) (hi : i < 32) : (mix a b i).set i (a.getD i 0 ^^^ b.getD i 0) = mix a b (i + 1) := by
  have hx := xorD_length a b ha hb
  have e : (xorD a b)[i]'(by omega) = a.getD i 0 ^^^ b.getD i 0 := by
    simp only [xorD, List.getElem_zipWith]
    rw [List.getD_eq_getElem?_getD, List.getD_eq_getElem?_getD, List.getElem?_eq_getElem (by omega), List.getElem?_eq_getElem (by omega)]
    rfl
  unfold mix
  rw [List.set_append_right _ _ (by rw [List.length_take, hx]; omega), List.length_take, hx, Nat.min_eq_left (by omega), Nat.sub_self, List.drop_eq_getElem_cons (show i < a.length by omega), List.set_cons_zero, List.take_succ_eq_append_getElem (by omega), e, List.append_assoc]
  rfl
theorem hd_set (s : Int) (r : List UInt8) (c : Int) (m : List UInt8) (i : Nat) (y : UInt8) (hr : r.length = 32) : (hdCs ⟨s, r, c, m⟩).set (34 + i) (.int .u8 (y.toNat : Int)) = hdCs ⟨s, r, c, m.set i y⟩ := by
  have e : ∀ n : List UInt8, hdCs ⟨s, r, c, n⟩ = ([Value.int .i64 s] ++ (r.map u8V ++ [Value.int .i64 c])) ++ n.map u8V := fun n => by simp [hdCs]
  rw [e, e, List.set_append_right _ _ (by simp [hr]), show 34 + i - ([Value.int .i64 s] ++ (r.map u8V ++ [Value.int .i64 c])).length = i by simp [hr], List.map_set]
  rfl
theorem st_set (f : FzR) (c : Int) (m : List UInt8) (i : Nat) (y : UInt8) (hr : f.root.length = 32) : (stCs ⟨f, c, m⟩).set (35 + i) (.int .u8 (y.toNat : Int)) = stCs ⟨f, c, m.set i y⟩ := by
  have e : ∀ n : List UInt8, stCs ⟨f, c, n⟩ = (fzCs f ++ [Value.int .i64 c]) ++ n.map u8V := fun n => by simp [stCs]
  rw [e, e, List.set_append_right _ _ (by simp [fzCs_length hr]), show 35 + i - (fzCs f ++ [Value.int .i64 c]).length = i by simp [fzCs_length hr], List.map_set]
  rfl
theorem blk_set {p : Nat} {T : TypeId} {cs : List Value} {w : World} (h : Blk p T cs w) (i : Nat) (v : Value) : Blk p T (cs.set i v) (w.setCell ⟨p, i, none⟩ v) := by
  have := heap_set (i := i) h v
  unfold Blk
  rw [this]
  congr 2
  simp
theorem range_app {w : World} {b o : Nat} {x y : List Value} (h : w.rangeAt b o (x ++ y)) : w.rangeAt b o x ∧ w.rangeAt b (o + x.length) y :=
  ⟨fun j v hv => h j v (by rw [List.getElem?_append_left (List.getElem?_eq_some_iff.1 hv).1]; exact hv),
   fun j v hv => by
    have := h (x.length + j) v (by rw [List.getElem?_append_right (by omega), show x.length + j - x.length = j by omega]; exact hv)
    rwa [← Nat.add_assoc] at this⟩
theorem idx_sumA (b o i : Nat) (h : i < 32) (w : World) : (Instr.indexAt 23 (.pointer (some ⟨b, o, none⟩)) (.int .i64 (i : Int))).run Tryd.prog w = .ok (.pointer (some ⟨b, o + i, none⟩)) w := by
  have h1 : (0 : Int) ≤ (i : Int) := by omega
  have h2 : (i : Int) < 32 := by omega
  go_simp
theorem load_u8A {b o : Nat} {x : UInt8} {w : World} (h0 : w.cell? ⟨b, o, none⟩ = some (u8V x)) : (Instr.loadAt 5 (.pointer (some ⟨b, o, none⟩))).run Tryd.prog w = .ok (.int .u8 (x.toNat : Int)) w := by
  unfold u8V at h0
  go_simp
theorem store_u8A {b o : Nat} {x : Int} {v : Value} {w : World} (c : w.cell? ⟨b, o, none⟩ = some v) (f : w.frozen? ⟨b, o, none⟩ = false) : (Instr.storeAt 5 (.pointer (some ⟨b, o, none⟩)) (.int .u8 x)).run Tryd.prog w = .ok () (w.setCell ⟨b, o, none⟩ (.int .u8 x)) := by go_simp
theorem xor_u8A (x y : UInt8) (w : World) : (binOp .xor 5 (.int .u8 (x.toNat : Int)) (.int .u8 (y.toNat : Int))).run Tryd.prog w = .ok (.int .u8 ((x ^^^ y).toNat : Int)) w := by
  have h := xor_u8 x y
  go_simp
  try exact h
theorem turn_hd (K : List UInt8) (s : Int) (r : List UInt8) (c : Int) (X : List UInt8) : (hdB ⟨s, r, c, X⟩ && decide (Mac.mac K (hdL ⟨s, r, c, X⟩) = X)) = (hdB (hdMk K s r c) && decide ((⟨s, r, c, X⟩ : HdR) = hdMk K s r c)) := by
  rw [hdB_mac, hdL_mac, show hdB (hdMk K s r c) = hdB ⟨s, r, c, z32⟩ from hdB_mac _ _ _ _]
  cases hb : hdB ⟨s, r, c, z32⟩ with
  | false => rfl
  | true =>
    rw [Bool.true_and, Bool.true_and, decide_eq_decide]
    unfold hdMk
    rw [sgn_pos hb]
    exact ⟨fun e => by rw [e], fun e => by injection e with _ _ _ e; exact e.symm⟩
theorem turn_st (K : List UInt8) (f : FzR) (c : Int) (X : List UInt8) : (stB ⟨f, c, X⟩ && decide (Mac.mac K (stL ⟨f, c, X⟩) = X)) = (stB (stMk K f c) && decide ((⟨f, c, X⟩ : StR) = stMk K f c)) := by
  rw [stB_mac, stL_mac, show stB (stMk K f c) = stB ⟨f, c, z32⟩ from stB_mac _ _ _]
  cases hb : stB ⟨f, c, z32⟩ with
  | false => rfl
  | true =>
    rw [Bool.true_and, Bool.true_and, decide_eq_decide]
    unfold stMk
    rw [sgn_pos hb]
    exact ⟨fun e => by rw [e], fun e => by injection e with _ _ e; exact e.symm⟩
theorem own_hd (K : List UInt8) (s : Int) (r : List UInt8) (c : Int) : (hdB (hdMk K s r c) && decide (Mac.mac K (hdL (hdMk K s r c)) = (hdMk K s r c).mac)) = hdB (hdMk K s r c) := by
  have := turn_hd K s r c (hdMk K s r c).mac
  refine Eq.trans this ?_
  rw [decide_eq_true (show (⟨s, r, c, (hdMk K s r c).mac⟩ : HdR) = hdMk K s r c from rfl), Bool.and_true]
theorem own_st (K : List UInt8) (f : FzR) (c : Int) : (stB (stMk K f c) && decide (Mac.mac K (stL (stMk K f c)) = (stMk K f c).mac)) = stB (stMk K f c) := by
  have := turn_st K f c (stMk K f c).mac
  refine Eq.trans this ?_
  rw [decide_eq_true (show (⟨f, c, (stMk K f c).mac⟩ : StR) = stMk K f c from rfl), Bool.and_true]
theorem err_b (b : Bool) (w : World) : (binOp .eql 31 (.int .i64 (if b then 0 else 1)) (.int .i64 0)).run Tryd.prog w = .ok (.bool b) w := by
  cases b
  · exact eql_err_d 1 0 w
  · exact eql_err_d 0 0 w
theorem neq_bool_same (a : Bool) (w : World) : (binOp .neq 4 (.bool a) (.bool a)).run Tryd.prog w = .ok (.bool false) w := by cases a <;> go_simp
theorem eql_bool_same (a : Bool) (w : World) : (binOp .eql 4 (.bool a) (.bool a)).run Tryd.prog w = .ok (.bool true) w := eql_bool_t a a rfl w
/-- Ahead of byte i: both Macs are turned up to there. -/
def TurnRel (q xA xB xG xU : Nat) (GA : HdR) (GB : StR) (D : List UInt8) (w : World) (si : Value) (wr : World) : Prop :=
  ∃ i : Nat, i ≤ 32 ∧ si = .int .i64 i ∧ Blk q 23 (D.map u8V) wr ∧ Blk xA 27 (hdCs GA) wr ∧ Blk xB 29 (stCs GB) wr ∧ Blk xG 27 (hdCs ⟨GA.size, GA.root, GA.clock, mix GA.mac D i⟩) wr ∧ Blk xU 29 (stCs ⟨GB.fz, GB.tim, mix GB.mac D i⟩) wr ∧ Below w.heap.size w wr
set_option maxHeartbeats 12800000 in
set_option maxRecDepth 100000 in
theorem walk {w : World} (hK : KT w) (s : ByteArray) (_hs : s.size ≤ maxLen) (h : HdR) (hh : HdOk h) (t : StR) (ht : StOk t) (D : List UInt8) (hD : D.length = 32) :
    Calls Tryd.prog 6 #[.string s, .agg (hdCs h ++ stCs t).toArray, sumV D] w fun e w' => e = .returned (.bool true) ∧ Below w.heap.size w w' := by
  have HAW := Lib.hid fun u hu => awake16_any u hu
  have HSH := Lib.hid fun u => short16_any s 100 100 rfl u
  have hl := shortB_size s 100
  obtain ⟨S, hS⟩ : ∃ S, S = shortB s 100 := ⟨_, rfl⟩
  rw [← hS] at hl HSH
  clear hS _hs
  have hk : S.size ≤ 1000000 := by omega
  obtain ⟨GA, hGA⟩ : ∃ g, g = hdMk S.data.toList h.size h.root h.clock := ⟨_, rfl⟩
  obtain ⟨GB, hGB⟩ : ∃ g, g = stMk S.data.toList t.fz t.tim := ⟨_, rfl⟩
  have hoA : HdOk GA := by rw [hGA]; exact ⟨hh.size, hh.root, hh.clock, sgn_length _ _ _⟩
  have hoB : StOk GB := by rw [hGB]; exact ⟨ht.fz, ht.tim, sgn_length _ _ _⟩
  have HMA : Hid (∀ u, KT u → Calls Tryd.prog 25 #[.string S, .int .i64 h.size, .agg (h.root.map u8V).toArray, .int .i64 h.clock] u fun e w' => e = .returned (.agg (hdCs GA).toArray) ∧ Below u.heap.size u w') := Lib.hid fun u hu => by rw [hGA]; exact hdMake_any S hk h.size h.root hh.root h.clock u hu
  have HMB : Hid (∀ u, KT u → Calls Tryd.prog 26 #[.string S, .agg (fzCs t.fz).toArray, .int .i64 t.tim] u fun e w' => e = .returned (.agg (stCs GB).toArray) ∧ Below u.heap.size u w') := Lib.hid fun u hu => by rw [hGB]; exact stMake_any S hk t.fz ht.fz.root t.tim u hu
  obtain ⟨bA, hbA⟩ : ∃ b, b = hdB GA := ⟨_, rfl⟩
  obtain ⟨bB, hbB⟩ : ∃ b, b = stB GB := ⟨_, rfl⟩
  obtain ⟨eA, hEA⟩ : ∃ e : Int, e = if bA then 0 else 1 := ⟨_, rfl⟩
  obtain ⟨eB, hEB⟩ : ∃ e : Int, e = if bB then 0 else 1 := ⟨_, rfl⟩
  have HEA : Hid (∀ u : World, (binOp .eql 31 (.int .i64 eA) (.int .i64 0)).run Tryd.prog u = .ok (.bool bA) u) := Lib.hid fun u => by rw [hEA]; exact err_b bA u
  have HEB : Hid (∀ u : World, (binOp .eql 31 (.int .i64 eB) (.int .i64 0)).run Tryd.prog u = .ok (.bool bB) u) := Lib.hid fun u => by rw [hEB]; exact err_b bB u
  have HBA : Hid (∀ u, Calls Tryd.prog 12 #[.agg (hdCs GA).toArray] u fun e w' => e = .returned (.tuple #[.string (hdG GA), .int .i64 eA]) ∧ Below u.heap.size u w') := Lib.hid fun u => by rw [hEA, hbA]; exact hdBytes_any GA hoA.root hoA.mac u
  have HBB : Hid (∀ u, Calls Tryd.prog 14 #[.agg (stCs GB).toArray] u fun e w' => e = .returned (.tuple #[.string (stG GB), .int .i64 eB]) ∧ Below u.heap.size u w') := Lib.hid fun u => by rw [hEB, hbB]; exact stBytes_any GB hoB.fz.root hoB.mac u
  have HRA : Hid (∀ u, KT u → Calls Tryd.prog 29 #[.string S, .agg (hdCs GA).toArray] u fun e w' => e = .returned (.bool bA) ∧ Below u.heap.size u w') := Lib.hid fun u hu => by
    have := hdRight_any S hk GA hoA.root hoA.mac u hu
    rw [hbA]
    rw [hGA] at this ⊢
    rw [own_hd] at this
    exact this
  have HRB : Hid (∀ u, KT u → Calls Tryd.prog 31 #[.string S, .agg (stCs GB).toArray] u fun e w' => e = .returned (.bool bB) ∧ Below u.heap.size u w') := Lib.hid fun u hu => by
    have := stRight_any S hk GB hoB.fz.root hoB.mac u hu
    rw [hbB]
    rw [hGB] at this ⊢
    rw [own_st] at this
    exact this
  obtain ⟨GG, hGG⟩ : ∃ g : HdR, g = ⟨GA.size, GA.root, GA.clock, xorD GA.mac D⟩ := ⟨_, rfl⟩
  obtain ⟨GU, hGU⟩ : ∃ g : StR, g = ⟨GB.fz, GB.tim, xorD GB.mac D⟩ := ⟨_, rfl⟩
  have hoG : HdOk GG := by rw [hGG]; exact ⟨hoA.size, hoA.root, hoA.clock, xorD_length _ _ hoA.mac hD⟩
  have hoU : StOk GU := by rw [hGU]; exact ⟨hoB.fz, hoB.tim, xorD_length _ _ hoB.mac hD⟩
  have HRG : Hid (∀ u, KT u → Calls Tryd.prog 29 #[.string S, .agg (hdCs GG).toArray] u fun e w' => e = .returned (.bool (bA && decide (GG = GA))) ∧ Below u.heap.size u w') := Lib.hid fun u hu => by
    have := hdRight_any S hk GG hoG.root hoG.mac u hu
    rw [hbA]
    rw [hGG] at this ⊢
    rw [show (hdB ⟨GA.size, GA.root, GA.clock, xorD GA.mac D⟩ && decide (Mac.mac S.data.toList (hdL ⟨GA.size, GA.root, GA.clock, xorD GA.mac D⟩) = (⟨GA.size, GA.root, GA.clock, xorD GA.mac D⟩ : HdR).mac)) = (hdB GA && decide ((⟨GA.size, GA.root, GA.clock, xorD GA.mac D⟩ : HdR) = GA)) from by
      have := turn_hd S.data.toList h.size h.root h.clock (xorD GA.mac D)
      rw [← hGA] at this
      have e1 : GA.size = h.size := by rw [hGA]; rfl
      have e2 : GA.root = h.root := by rw [hGA]; rfl
      have e3 : GA.clock = h.clock := by rw [hGA]; rfl
      rw [e1, e2, e3]
      exact this] at this
    exact this
  have HRU : Hid (∀ u, KT u → Calls Tryd.prog 31 #[.string S, .agg (stCs GU).toArray] u fun e w' => e = .returned (.bool (bB && decide (GU = GB))) ∧ Below u.heap.size u w') := Lib.hid fun u hu => by
    have := stRight_any S hk GU hoU.fz.root hoU.mac u hu
    rw [hbB]
    rw [hGU] at this ⊢
    rw [show (stB ⟨GB.fz, GB.tim, xorD GB.mac D⟩ && decide (Mac.mac S.data.toList (stL ⟨GB.fz, GB.tim, xorD GB.mac D⟩) = (⟨GB.fz, GB.tim, xorD GB.mac D⟩ : StR).mac)) = (stB GB && decide ((⟨GB.fz, GB.tim, xorD GB.mac D⟩ : StR) = GB)) from by
      have := turn_st S.data.toList t.fz t.tim (xorD GB.mac D)
      rw [← hGB] at this
      have e1 : GB.fz = t.fz := by rw [hGB]; rfl
      have e2 : GB.tim = t.tim := by rw [hGB]; rfl
      rw [e1, e2]
      exact this] at this
    exact this
  have HIfz : Hid ((Tryd.prog.info? 25).map (·.size) = some 34) := Lib.hid (size_of info_fz)
  have HZfz : Hid ((fzCs fz0).length = 34) := Lib.hid rfl
  have HIhd : Hid ((Tryd.prog.info? 27).map (·.size) = some 66) := Lib.hid (size_of info_hd)
  have HZhd : Hid ((hdCs hd0).length = 66) := Lib.hid rfl
  have HIst : Hid ((Tryd.prog.info? 29).map (·.size) = some 67) := Lib.hid (size_of info_st)
  have HZst : Hid ((stCs st0).length = 67) := Lib.hid rfl
  have HAA : Hid ((hdCs GA).toArray.size = 66) := Lib.hid (by rw [List.size_toArray]; exact hdCs_length hoA.root hoA.mac)
  have HAB : Hid ((stCs GB).toArray.size = 67) := Lib.hid (by rw [List.size_toArray]; exact stCs_length hoB.fz.root hoB.mac)
  have HLA : Hid ((hdCs GA).length = 66) := Lib.hid (hdCs_length hoA.root hoA.mac)
  have HLB : Hid ((stCs GB).length = 67) := Lib.hid (stCs_length hoB.fz.root hoB.mac)
  have OKh := Lib.hid hh
  have OKt := Lib.hid ht
  have OKA := Lib.hid hoA
  have OKB := Lib.hid hoB
  have OKG := Lib.hid hoG
  have OKU := Lib.hid hoU
  have HGG := Lib.hid hGG
  have HGU := Lib.hid hGU
  have HDl := Lib.hid hD
  have HLz : Hid ((Tryd.prog.info? 25).map (·.size) = some (fzCs t.fz).length) := Lib.hid (by rw [fzCs_length ht.fz.root]; exact size_fz)
  clear hl hk hh ht hoA hoB hoG hoU hGA hGB hGG hGU hbA hbB hD hEA hEB
  unfold sumV
  obtain ⟨p, hp⟩ : ∃ p, p = w.heap.size := ⟨_, rfl⟩
  obtain ⟨q, hq⟩ : ∃ q, q = p + 1 := ⟨_, rfl⟩
  obtain ⟨A2, hA2⟩ : ∃ W, W = w.alloc (.cells (hdCs h ++ stCs t).toArray 52) := ⟨_, rfl⟩
  obtain ⟨A3, hA3⟩ : ∃ W, W = A2.alloc (.cells (D.map u8V).toArray 23) := ⟨_, rfl⟩
  have s2 : A2.heap.size = q := by rw [hA2, hq, hp]; simp
  have a2 : Below w.heap.size w A2 := by rw [hA2]; exact below_boxS _ _
  have a3 : Below A2.heap.size A2 A3 := by rw [hA3]; exact below_boxS _ _
  have HBp : Blk p 52 (hdCs h ++ stCs t) A2 := by rw [hA2, hp]; exact Blk.alloc _ _ _
  replace HBp := HBp.old a3 HBp.lt
  have HBq : Blk q 23 (D.map u8V) A3 := by rw [hA3, ← s2]; exact Blk.alloc _ _ _
  have hb := below_step a2 (Nat.le_refl _) a3
  have hpw : w.heap.size ≤ p := by omega
  have hpq : p < q := by omega
  have H2 := Lib.hid hA2
  have H3 := Lib.hid hA3
  have HP := Lib.hid hp
  have HQ := Lib.hid hq
  have HKA := Lib.hid hK
  clear hA2 hA3 hp hq s2 a2 a3 hK
  go_enter Tryd.func6, Tryd.ntmps6
  go_upto_region 1 with fail
  rw [← H2.out, ← HP.out, ← H3.out, ← HQ.out]
  clear H2 H3 HP HQ
  go_upto_region 2 with (first
    | (go_at_call 9; (refine (HAW.out _ (HKA.out.old hb)).mono ?_; rintro e w1 ⟨rfl, b1⟩)))
  replace HBp := Blk.old HBp b1 (Blk.lt HBp)
  replace HBq := Blk.old HBq b1 (Blk.lt HBq)
  replace hb := below_step hb (Nat.le_refl _) b1
  clear b1
  clear HAW
  go_upto_region 3 with (go_at_call 21; (refine (HSH.out _).mono ?_; rintro e w00 ⟨rfl, rfl⟩))
  clear HSH
  have r0 := (range_split HBp).1
  have c0 := (range_app r0).1 0 _ rfl
  have r1 := (range_app r0).2
  have HRr := Lib.hid (range_app r1).1
  have c33 := (range_app (range_app r1).2).1 0 _ rfl
  rw [show (0 + ([Value.int .i64 h.size] : List Value).length + (h.root.map u8V).length + 0) = 33 by simp [OKh.out.root]] at c33
  clear r0 r1
  go_upto_region 4 with (first
    | refine wpList_load_mid rfl 23 (.tmp 25) rfl p 1 rfl (h.root.map u8V) _ HRr.out Tryd.underlying23 rfl (sum_info' OKh.out.root) ?_
    | (go_at_call 25; (refine (HMA.out _ (HKA.out.old hb)).mono ?_; rintro e w2 ⟨rfl, b2⟩))
    | refine wpList_store_mid (w := w2.alloc (.cells (hdCs hd0).toArray 27)) rfl 27 (.tmp 8) (.tmp 30) rfl w2.heap.size 0 (hdCs GA).toArray rfl rfl (by rw [HAA.out]; exact Blk.there (Blk.alloc w2 27 (hdCs hd0)) (by rw [HZhd.out]; decide)) (by rw [HAA.out]; exact HIhd.out) one_hd ?_)
  obtain ⟨xHXA, hxHXA⟩ : ∃ x, x = w2.heap.size := ⟨_, rfl⟩
  obtain ⟨V2, hV2⟩ : ∃ u, u = (w2.alloc (.cells (hdCs hd0).toArray 27)).setCells w2.heap.size 0 (hdCs GA) := ⟨_, rfl⟩
  change Code.wp _ _ _ _ ((w2.alloc (.cells (hdCs hd0).toArray 27)).setCells w2.heap.size 0 (hdCs GA))
  rw [← hV2, ← hxHXA]
  have c2 : Below w2.heap.size w2 V2 := by rw [hV2]; exact below_setCells (Nat.le_refl _) _ _ _ (below_boxS _ _)
  have HXA : Blk xHXA 27 (hdCs GA) V2 := by rw [hV2, hxHXA]; exact Blk.setAll (Blk.alloc w2 27 (hdCs hd0)) (by rw [HZhd.out, ← List.size_toArray]; exact HAA.out)
  replace HBp := Blk.old HBp b2 (Blk.lt HBp)
  replace HBq := Blk.old HBq b2 (Blk.lt HBq)
  replace HBp := Blk.old HBp c2 (Blk.lt HBp)
  replace HBq := Blk.old HBq c2 (Blk.lt HBq)
  replace hb := below_step (below_step hb (Nat.le_refl _) b2) (Nat.le_refl _) c2
  clear hV2 hxHXA b2 c2
  clear c0 c33 HRr HMA
  have r0 := (range_split HBp).2
  rw [hdCs_length OKh.out.root OKh.out.mac] at r0
  have HRr := Lib.hid (range_app r0).1
  have c100 := (range_app (range_app r0).2).1 0 _ rfl
  rw [fzCs_length OKt.out.fz.root] at c100
  clear r0
  go_upto_region 5 with (first
    | refine wpList_load_mid rfl 25 (.tmp 33) rfl p 66 rfl (fzCs t.fz) _ HRr.out Tryd.underlying25 rfl HLz.out ?_
    | (go_at_call 26; (refine (HMB.out _ (HKA.out.old hb)).mono ?_; rintro e w3 ⟨rfl, b3⟩))
    | refine wpList_store_mid (w := w3.alloc (.cells (stCs st0).toArray 29)) rfl 29 (.tmp 9) (.tmp 38) rfl w3.heap.size 0 (stCs GB).toArray rfl rfl (by rw [HAB.out]; exact Blk.there (Blk.alloc w3 29 (stCs st0)) (by rw [HZst.out]; decide)) (by rw [HAB.out]; exact HIst.out) one_st ?_)
  obtain ⟨xHXB, hxHXB⟩ : ∃ x, x = w3.heap.size := ⟨_, rfl⟩
  obtain ⟨V3, hV3⟩ : ∃ u, u = (w3.alloc (.cells (stCs st0).toArray 29)).setCells w3.heap.size 0 (stCs GB) := ⟨_, rfl⟩
  change Code.wp _ _ _ _ ((w3.alloc (.cells (stCs st0).toArray 29)).setCells w3.heap.size 0 (stCs GB))
  rw [← hV3, ← hxHXB]
  have c3 : Below w3.heap.size w3 V3 := by rw [hV3]; exact below_setCells (Nat.le_refl _) _ _ _ (below_boxS _ _)
  have HXB : Blk xHXB 29 (stCs GB) V3 := by rw [hV3, hxHXB]; exact Blk.setAll (Blk.alloc w3 29 (stCs st0)) (by rw [HZst.out, ← List.size_toArray]; exact HAB.out)
  replace HBp := Blk.old HBp b3 (Blk.lt HBp)
  replace HBq := Blk.old HBq b3 (Blk.lt HBq)
  replace HXA := Blk.old HXA b3 (Blk.lt HXA)
  replace HBp := Blk.old HBp c3 (Blk.lt HBp)
  replace HBq := Blk.old HBq c3 (Blk.lt HBq)
  replace HXA := Blk.old HXA c3 (Blk.lt HXA)
  replace hb := below_step (below_step hb (Nat.le_refl _) b3) (Nat.le_refl _) c3
  clear hV3 hxHXB b3 c3
  clear c100 HRr HMB HLz HBp
  go_upto_region 6 with (first
    | refine wpList_load_mid rfl 27 (.tmp 8) rfl xHXA 0 rfl (hdCs GA) _ (Blk.all HXA) Tryd.underlying27 rfl (by rw [HLA.out]; exact HIhd.out) ?_
    | (go_at_call 12; (refine (HBA.out _).mono ?_; rintro e w4 ⟨rfl, b4⟩)))
  replace HBq := Blk.old HBq b4 (Blk.lt HBq)
  replace HXA := Blk.old HXA b4 (Blk.lt HXA)
  replace HXB := Blk.old HXB b4 (Blk.lt HXB)
  replace hb := below_step hb (Nat.le_refl _) b4
  clear b4
  go_upto_region 7 with (first
    | refine wpList_load_mid rfl 29 (.tmp 9) rfl xHXB 0 rfl (stCs GB) _ (Blk.all HXB) Tryd.underlying29 rfl (by rw [HLB.out]; exact HIst.out) ?_
    | (go_at_call 14; (refine (HBB.out _).mono ?_; rintro e w5 ⟨rfl, b5⟩)))
  replace HBq := Blk.old HBq b5 (Blk.lt HBq)
  replace HXA := Blk.old HXA b5 (Blk.lt HXA)
  replace HXB := Blk.old HXB b5 (Blk.lt HXB)
  replace hb := below_step hb (Nat.le_refl _) b5
  clear b5
  obtain ⟨U, hU⟩ : ∃ U, U = w5 := ⟨_, rfl⟩
  subst hU
  have HKU : Hid (KT U) := Lib.hid (HKA.out.old hb)
  generalize hdG GA = TA
  generalize stG GB = TB
  clear HBA HBB
  try simp only [Act.put]
  refine wp_region_tab0 [RT.is (.string S), RT.is (.agg (hdCs GA).toArray), RT.is (.bool bA), RT.is (.int .i64 eA), RT.is (.bool bA), RT.is (.bool false), RT.is (.bool false), RT.is (.string S), RT.is (.agg (stCs GB).toArray), RT.is (.bool bB), RT.is (.int .i64 eB), RT.is (.bool bB), RT.is (.bool false), RT.is (.bool false)] (by kernel_rfl) (by kernel_rfl) (by kernel_rfl) ⟨?_, ?_, ?_, ?_, ?_, ?_, ?_, ?_, ?_, ?_, ?_, ?_, ?_, ?_, trivial⟩ ?_
  · intro ac w' hF hL hP hU K hK
    have hB : Below _ _ _ := hL
    have e0 : ac.eval (.tmp 0) = .string S := hF.at 0 (by kernel_rfl)
    exact rop_move _ rfl e0 (wanted_none rfl) (hK _ _ (le8_refl _) rfl)
  · intro ac w' hF hL hP hU K hK
    have hB : Below _ _ _ := hL
    have e8 : ac.eval (.tmp 8) = .pointer (some ⟨xHXA, 0, none⟩) := hF.at 8 (by kernel_rfl)
    exact rop_ld _ _ rfl e8 (load_hdAt (below_range' hB (Blk.lt HXA) (Blk.all HXA)) OKA.out.root OKA.out.mac) (wanted_none rfl) (hK _ _ (le8_refl _) rfl)
  · intro ac w' hF hL hP hU K hK
    have hB : Below _ _ _ := hL
    have e49 : ac.eval (.tmp 49) = .string S := hP 0 (by kernel_rfl)
    have e50 : ac.eval (.tmp 50) = .agg (hdCs GA).toArray := hP 1 (by kernel_rfl)
    refine rop_call 29 _ _ rfl #[.string S, .agg (hdCs GA).toArray] (by simp [e49, e50]) (by kernel_rfl) (wanted_none rfl) ?_
    refine (HRA.out w' (HKU.out.old hB)).mono ?_
    rintro e w2 ⟨rfl, hb⟩
    exact ⟨_, rfl, hK _ _ hb rfl⟩
  · intro ac w' hF hL hP hU K hK
    have hB : Below _ _ _ := hL
    have e11 : ac.eval (.tmp 11) = .int .i64 eA := hF.at 11 (by kernel_rfl)
    exact rop_move _ rfl e11 (wanted_none rfl) (hK _ _ (le8_refl _) rfl)
  · intro ac w' hF hL hP hU K hK
    have hB : Below _ _ _ := hL
    have e52 : ac.eval (.tmp 52) = .int .i64 eA := hP 3 (by kernel_rfl)
    exact rop_bin _ _ _ _ _ rfl e52 rfl (guard_int _ _ _ _ _ _ _ w') (HEA.out w') (wanted_none rfl) (hK _ _ (le8_refl _) rfl)
  · intro ac w' hF hL hP hU K hK
    have hB : Below _ _ _ := hL
    have e51 : ac.eval (.tmp 51) = .bool bA := hP 2 (by kernel_rfl)
    have e53 : ac.eval (.tmp 53) = .bool bA := hP 4 (by kernel_rfl)
    exact rop_bin _ _ _ _ _ rfl e51 e53 (guard_boolS _ _ _ _ _ _ w') (neq_bool_same _ w') (wanted_none rfl) (hK _ _ (le8_refl _) rfl)
  · intro ac w' hF hL hP hU K hK
    have hB : Below _ _ _ := hL
    have e54 : ac.eval (.tmp 54) = .bool false := hP 5 (by kernel_rfl)
    exact rop_move _ rfl e54 (wanted_none rfl) (hK _ _ (le8_refl _) rfl)
  · intro ac w' hF hL hP hU K hK
    have hB : Below _ _ _ := hL
    have e0 : ac.eval (.tmp 0) = .string S := hF.at 0 (by kernel_rfl)
    have e55 : ac.eval (.tmp 55) = .bool false := hP 6 (by kernel_rfl)
    exact rop_move _ rfl e0 (wanted_of (j := 6) (b := false) rfl rfl e55) (hK _ _ (le8_refl _) rfl)
  · intro ac w' hF hL hP hU K hK
    have hB : Below _ _ _ := hL
    have e9 : ac.eval (.tmp 9) = .pointer (some ⟨xHXB, 0, none⟩) := hF.at 9 (by kernel_rfl)
    have e55 : ac.eval (.tmp 55) = .bool false := hP 6 (by kernel_rfl)
    exact rop_ld _ _ rfl e9 (load_stAt (below_range' hB (Blk.lt HXB) (Blk.all HXB)) OKB.out.fz.root OKB.out.mac) (wanted_of (j := 6) (b := false) rfl rfl e55) (hK _ _ (le8_refl _) rfl)
  · intro ac w' hF hL hP hU K hK
    have hB : Below _ _ _ := hL
    have e56 : ac.eval (.tmp 56) = .string S := hP 7 (by kernel_rfl)
    have e57 : ac.eval (.tmp 57) = .agg (stCs GB).toArray := hP 8 (by kernel_rfl)
    have e55 : ac.eval (.tmp 55) = .bool false := hP 6 (by kernel_rfl)
    refine rop_call 31 _ _ rfl #[.string S, .agg (stCs GB).toArray] (by simp [e56, e57]) (by kernel_rfl) (wanted_of (j := 6) (b := false) rfl rfl e55) ?_
    refine (HRB.out w' (HKU.out.old hB)).mono ?_
    rintro e w2 ⟨rfl, hb⟩
    exact ⟨_, rfl, hK _ _ hb rfl⟩
  · intro ac w' hF hL hP hU K hK
    have hB : Below _ _ _ := hL
    have e13 : ac.eval (.tmp 13) = .int .i64 eB := hF.at 13 (by kernel_rfl)
    have e55 : ac.eval (.tmp 55) = .bool false := hP 6 (by kernel_rfl)
    exact rop_move _ rfl e13 (wanted_of (j := 6) (b := false) rfl rfl e55) (hK _ _ (le8_refl _) rfl)
  · intro ac w' hF hL hP hU K hK
    have hB : Below _ _ _ := hL
    have e59 : ac.eval (.tmp 59) = .int .i64 eB := hP 10 (by kernel_rfl)
    have e55 : ac.eval (.tmp 55) = .bool false := hP 6 (by kernel_rfl)
    exact rop_bin _ _ _ _ _ rfl e59 rfl (guard_int _ _ _ _ _ _ _ w') (HEB.out w') (wanted_of (j := 6) (b := false) rfl rfl e55) (hK _ _ (le8_refl _) rfl)
  · intro ac w' hF hL hP hU K hK
    have hB : Below _ _ _ := hL
    have e58 : ac.eval (.tmp 58) = .bool bB := hP 9 (by kernel_rfl)
    have e60 : ac.eval (.tmp 60) = .bool bB := hP 11 (by kernel_rfl)
    have e55 : ac.eval (.tmp 55) = .bool false := hP 6 (by kernel_rfl)
    exact rop_bin _ _ _ _ _ rfl e58 e60 (guard_boolS _ _ _ _ _ _ w') (neq_bool_same _ w') (wanted_of (j := 6) (b := false) rfl rfl e55) (hK _ _ (le8_refl _) rfl)
  · intro ac w' hF hL hP hU K hK
    have hB : Below _ _ _ := hL
    have e55 : ac.eval (.tmp 55) = .bool false := hP 6 (by kernel_rfl)
    have e61 : ac.eval (.tmp 61) = .bool false := hP 12 (by kernel_rfl)
    exact rop_pick _ _ _ rfl false e55 (by simpa using e61) (wanted_none rfl) (hK _ _ (le8_refl _) rfl)
  · intro ac w' hF hB hT
    have e62 : ac.eval (.tmp 62) = .bool false := hT 13 (by decide)
    rw [hF.setsG [49, 50, 51, 52, 53, 54, 55, 56, 57, 58, 59, 60, 61, 62] (by kernel_rfl)]
    simp only [List.foldl_cons, List.foldl_nil, List.setIfInBounds_toArray, List.set_cons_succ, List.set_cons_zero, e62]
    generalize ac.eval (.tmp 49) = u49
    generalize ac.eval (.tmp 50) = u50
    generalize ac.eval (.tmp 51) = u51
    generalize ac.eval (.tmp 52) = u52
    generalize ac.eval (.tmp 53) = u53
    generalize ac.eval (.tmp 54) = u54
    generalize ac.eval (.tmp 55) = u55
    generalize ac.eval (.tmp 56) = u56
    generalize ac.eval (.tmp 57) = u57
    generalize ac.eval (.tmp 58) = u58
    generalize ac.eval (.tmp 59) = u59
    generalize ac.eval (.tmp 60) = u60
    generalize ac.eval (.tmp 61) = u61
    clear e62 hT hF ac
    replace HBq := Blk.old HBq hB (Blk.lt HBq)
    replace HXA := Blk.old HXA hB (Blk.lt HXA)
    replace HXB := Blk.old HXB hB (Blk.lt HXB)
    replace hb := below_step hb (Nat.le_refl _) hB
    clear hB HKU HRA HRB
    go_upto_region 9 with fail
    go_upto_region 10 with (first
      | refine wpList_load_mid rfl 27 (.tmp 8) rfl xHXA 0 rfl (hdCs GA) _ (Blk.all HXA) Tryd.underlying27 rfl (by rw [HLA.out]; exact HIhd.out) ?_
      | refine wpList_store_mid (w := w'.alloc (.cells (hdCs hd0).toArray 27)) rfl 27 (.tmp 14) (.tmp 63) rfl w'.heap.size 0 (hdCs GA).toArray rfl rfl (by rw [HAA.out]; exact Blk.there (Blk.alloc w' 27 (hdCs hd0)) (by rw [HZhd.out]; decide)) (by rw [HAA.out]; exact HIhd.out) one_hd ?_)
    obtain ⟨xHXG, hxHXG⟩ : ∃ x, x = w'.heap.size := ⟨_, rfl⟩
    obtain ⟨V6, hV6⟩ : ∃ u, u = (w'.alloc (.cells (hdCs hd0).toArray 27)).setCells w'.heap.size 0 (hdCs GA) := ⟨_, rfl⟩
    change Code.wp _ _ _ _ ((w'.alloc (.cells (hdCs hd0).toArray 27)).setCells w'.heap.size 0 (hdCs GA))
    rw [← hV6, ← hxHXG]
    have c6 : Below w'.heap.size w' V6 := by rw [hV6]; exact below_setCells (Nat.le_refl _) _ _ _ (below_boxS _ _)
    have HXG : Blk xHXG 27 (hdCs GA) V6 := by rw [hV6, hxHXG]; exact Blk.setAll (Blk.alloc w' 27 (hdCs hd0)) (by rw [HZhd.out, ← List.size_toArray]; exact HAA.out)
    have kHXG : q < xHXG ∧ xHXA < xHXG ∧ xHXB < xHXG := by rw [hxHXG]; exact ⟨Blk.lt HBq, Blk.lt HXA, Blk.lt HXB⟩
    replace HBq := Blk.old HBq c6 (Blk.lt HBq)
    replace HXA := Blk.old HXA c6 (Blk.lt HXA)
    replace HXB := Blk.old HXB c6 (Blk.lt HXB)
    replace hb := below_step hb (Nat.le_refl _) c6
    clear hV6 hxHXG c6
    go_upto_region 11 with (first
      | refine wpList_load_mid rfl 29 (.tmp 9) rfl xHXB 0 rfl (stCs GB) _ (Blk.all HXB) Tryd.underlying29 rfl (by rw [HLB.out]; exact HIst.out) ?_
      | refine wpList_store_mid (w := V6.alloc (.cells (stCs st0).toArray 29)) rfl 29 (.tmp 15) (.tmp 64) rfl V6.heap.size 0 (stCs GB).toArray rfl rfl (by rw [HAB.out]; exact Blk.there (Blk.alloc V6 29 (stCs st0)) (by rw [HZst.out]; decide)) (by rw [HAB.out]; exact HIst.out) one_st ?_)
    obtain ⟨xHXU, hxHXU⟩ : ∃ x, x = V6.heap.size := ⟨_, rfl⟩
    obtain ⟨V7, hV7⟩ : ∃ u, u = (V6.alloc (.cells (stCs st0).toArray 29)).setCells V6.heap.size 0 (stCs GB) := ⟨_, rfl⟩
    change Code.wp _ _ _ _ ((V6.alloc (.cells (stCs st0).toArray 29)).setCells V6.heap.size 0 (stCs GB))
    rw [← hV7, ← hxHXU]
    have c7 : Below V6.heap.size V6 V7 := by rw [hV7]; exact below_setCells (Nat.le_refl _) _ _ _ (below_boxS _ _)
    have HXU : Blk xHXU 29 (stCs GB) V7 := by rw [hV7, hxHXU]; exact Blk.setAll (Blk.alloc V6 29 (stCs st0)) (by rw [HZst.out, ← List.size_toArray]; exact HAB.out)
    have kHXU : q < xHXU ∧ xHXA < xHXU ∧ xHXB < xHXU ∧ xHXG < xHXU := by rw [hxHXU]; exact ⟨Blk.lt HBq, Blk.lt HXA, Blk.lt HXB, Blk.lt HXG⟩
    replace HBq := Blk.old HBq c7 (Blk.lt HBq)
    replace HXA := Blk.old HXA c7 (Blk.lt HXA)
    replace HXB := Blk.old HXB c7 (Blk.lt HXB)
    replace HXG := Blk.old HXG c7 (Blk.lt HXG)
    replace hb := below_step hb (Nat.le_refl _) c7
    clear hV7 hxHXU c7
    obtain ⟨kg1, kg2, kg3⟩ := kHXG
    obtain ⟨ku1, ku2, ku3, ku4⟩ := kHXU
    have hwq : w.heap.size ≤ q := by omega
    go_wp2
    go_loopw [16] (TurnRel q xHXA xHXB xHXG xHXU GA GB D w) (fun i _ => 32 - (intOf i).toNat)
    case atStart => exact ⟨0, by omega, rfl, HBq, HXA, HXB, by rw [mix_0]; exact HXG, by rw [mix_0]; exact HXU, hb⟩
    case round =>
      clear HBq HXA HXB HXG HXU hb
      obtain ⟨i, hi, rfl, HBq, HXA, HXB, HXG, HXU, hb⟩ := hrel
      by_cases hi32 : i < 32
      · skip
        obtain ⟨x, hx⟩ : ∃ x, x = GA.mac.getD i 0 := ⟨_, rfl⟩
        obtain ⟨y, hy⟩ : ∃ y, y = D.getD i 0 := ⟨_, rfl⟩
        have hm := mix_at GA.mac D i OKA.out.mac HDl.out hi32
        have hst := mix_step GA.mac D i OKA.out.mac HDl.out hi32
        rw [← hx] at hm hst
        rw [← hy] at hst
        obtain ⟨WD, hWD⟩ : ∃ u, u = wr.drew := ⟨_, rfl⟩
        obtain ⟨WN, hWN⟩ : ∃ u, u = WD.setCell ⟨xHXG, 34 + i, none⟩ (.int .u8 ((x ^^^ y).toNat : Int)) := ⟨_, rfl⟩
        have bd : Blk xHXG 27 (hdCs ⟨GA.size, GA.root, GA.clock, mix GA.mac D i⟩) WD := by rw [hWD]; exact HXG
        have cg : WD.cell? ⟨xHXG, 34 + i, none⟩ = some (u8V x) := by
          have := (HdAt.mac (show HdAt xHXG _ WD from bd) OKA.out.root) i (u8V x) (by rw [List.getElem?_map, hm]; rfl)
          exact this
        have ct : WD.cell? ⟨q, 0 + i, none⟩ = some (u8V y) := by
          have : Blk q 23 (D.map u8V) WD := by rw [hWD]; exact HBq
          rw [this.cell, Nat.zero_add, List.getElem?_map, hy, List.getD_eq_getElem?_getD, List.getElem?_eq_getElem (by have := HDl.out; omega)]
          rfl
        have HST : Hid ((Instr.storeAt 5 (.pointer (some ⟨xHXG, 34 + i, none⟩)) (.int .u8 ((x ^^^ y).toNat : Int))).run Tryd.prog WD = .ok () WN) := Lib.hid (by rw [hWN]; exact store_u8A cg (bd.fz _))
        have HCG := Lib.hid cg
        have HCT := Lib.hid ct
        have gN : Blk xHXG 27 (hdCs ⟨GA.size, GA.root, GA.clock, mix GA.mac D (i + 1)⟩) WN := by
          have := blk_set bd (34 + i) (.int .u8 ((x ^^^ y).toNat : Int))
          rw [hd_set _ _ _ _ _ _ OKA.out.root, hst, ← hWN] at this
          exact this
        have oN : Only xHXG wr WN := by rw [hWN, hWD]; exact (Only.drewS (Only.refl xHXG wr)).setCell _ _
        have hbN := hb.trans (oN.below (B := w.heap.size) (by omega) hb.size)
        have HBqN := Blk.kept HBq oN (by omega)
        have HXAN := Blk.kept HXA oN (by omega)
        have HXBN := Blk.kept HXB oN (by omega)
        have HXUN := Blk.kept HXU oN (by omega)
        clear hWN cg ct bd hm hst hx hy oN HBq HXA HXB HXG HXU hb
        have HWD := Lib.hid hWD
        clear hWD
        go_upto_region 14 with fail
        try simp only [Act.put]
        refine wp_region_eff (Lx := fun _ _ => True) [RX.is (.int .i64 (i : Int)), RX.is (.int .i64 (i : Int)), RX.is (.pointer (some ⟨xHXG, 34, none⟩)), RX.is (.pointer (some ⟨xHXG, 34 + i, none⟩)), RX.is (.int .u8 (x.toNat : Int)), RX.is (.int .i64 (i : Int)), RX.is (.pointer (some ⟨q, 0 + i, none⟩)), RX.is (.int .u8 (y.toNat : Int)), RX.is (.int .u8 ((x ^^^ y).toNat : Int)), RX.is (.pointer (some ⟨xHXG, 34, none⟩)), RX.is (.pointer (some ⟨xHXG, 34 + i, none⟩)), RX.any] [11] (fun k w' => w' = [WD, WN].getD k WD) (by kernel_rfl) (by kernel_rfl) (by kernel_rfl) (by kernel_rfl) (by kernel_rfl) HWD.out.symm ⟨?_, ?_, ?_, ?_, ?_, ?_, ?_, ?_, ?_, ?_, ?_, ?_, trivial⟩ ?_
        · intro ac w' ph hF hPh hlt hP hU K hK0
          have e16 : ac.eval (.tmp 16) = .int .i64 (i : Int) := hF.at 16 (by kernel_rfl)
          exact rop_move _ rfl e16 (wanted_none rfl) (hK0 _ _ trivial hPh rfl)
        · intro ac w' ph hF hPh hlt hP hU K hK0
          have e16 : ac.eval (.tmp 16) = .int .i64 (i : Int) := hF.at 16 (by kernel_rfl)
          exact rop_move _ rfl e16 (wanted_none rfl) (hK0 _ _ trivial hPh rfl)
        · intro ac w' ph hF hPh hlt hP hU K hK0
          have e14 : ac.eval (.tmp 14) = .pointer (some ⟨xHXG, 0, none⟩) := hF.at 14 (by kernel_rfl)
          exact rop_fld _ _ _ rfl e14 ((fld_hd xHXG 0 _).2.2.2) (wanted_none rfl) (hK0 _ _ trivial hPh rfl)
        · intro ac w' ph hF hPh hlt hP hU K hK0
          have e71 : ac.eval (.tmp 71) = .pointer (some ⟨xHXG, 34, none⟩) := hP 2 (by kernel_rfl)
          have e70 : ac.eval (.tmp 70) = .int .i64 (i : Int) := hP 1 (by kernel_rfl)
          exact rop_idx _ _ _ rfl e71 e70 (idx_sumA xHXG 34 i hi32 _) (wanted_none rfl) (hK0 _ _ trivial hPh rfl)
        · intro ac w' ph hF hPh hlt hP hU K hK0
          obtain rfl : ph = 0 := Nat.le_zero.1 ((hlt 0 11 rfl).2 (by kernel_rfl))
          obtain rfl : w' = WD := hPh
          have e72 : ac.eval (.tmp 72) = .pointer (some ⟨xHXG, 34 + i, none⟩) := hP 3 (by kernel_rfl)
          exact rop_ld _ _ rfl e72 (load_u8A HCG.out) (wanted_none rfl) (hK0 _ _ trivial rfl rfl)
        · intro ac w' ph hF hPh hlt hP hU K hK0
          have e16 : ac.eval (.tmp 16) = .int .i64 (i : Int) := hF.at 16 (by kernel_rfl)
          exact rop_move _ rfl e16 (wanted_none rfl) (hK0 _ _ trivial hPh rfl)
        · intro ac w' ph hF hPh hlt hP hU K hK0
          have e5 : ac.eval (.tmp 5) = .pointer (some ⟨q, 0, none⟩) := hF.at 5 (by kernel_rfl)
          have e74 : ac.eval (.tmp 74) = .int .i64 (i : Int) := hP 5 (by kernel_rfl)
          exact rop_idx _ _ _ rfl e5 e74 (idx_sumA q 0 i hi32 _) (wanted_none rfl) (hK0 _ _ trivial hPh rfl)
        · intro ac w' ph hF hPh hlt hP hU K hK0
          obtain rfl : ph = 0 := Nat.le_zero.1 ((hlt 0 11 rfl).2 (by kernel_rfl))
          obtain rfl : w' = WD := hPh
          have e75 : ac.eval (.tmp 75) = .pointer (some ⟨q, 0 + i, none⟩) := hP 6 (by kernel_rfl)
          exact rop_ld _ _ rfl e75 (load_u8A HCT.out) (wanted_none rfl) (hK0 _ _ trivial rfl rfl)
        · intro ac w' ph hF hPh hlt hP hU K hK0
          have e73 : ac.eval (.tmp 73) = .int .u8 (x.toNat : Int) := hP 4 (by kernel_rfl)
          have e76 : ac.eval (.tmp 76) = .int .u8 (y.toNat : Int) := hP 7 (by kernel_rfl)
          exact rop_bin _ _ _ _ _ rfl e73 e76 (guard_int _ _ _ _ _ _ _ w') (xor_u8A x y w') (wanted_none rfl) (hK0 _ _ trivial hPh rfl)
        · intro ac w' ph hF hPh hlt hP hU K hK0
          have e14 : ac.eval (.tmp 14) = .pointer (some ⟨xHXG, 0, none⟩) := hF.at 14 (by kernel_rfl)
          exact rop_fld _ _ _ rfl e14 ((fld_hd xHXG 0 _).2.2.2) (wanted_none rfl) (hK0 _ _ trivial hPh rfl)
        · intro ac w' ph hF hPh hlt hP hU K hK0
          have e78 : ac.eval (.tmp 78) = .pointer (some ⟨xHXG, 34, none⟩) := hP 9 (by kernel_rfl)
          have e69 : ac.eval (.tmp 69) = .int .i64 (i : Int) := hP 0 (by kernel_rfl)
          exact rop_idx _ _ _ rfl e78 e69 (idx_sumA xHXG 34 i hi32 _) (wanted_none rfl) (hK0 _ _ trivial hPh rfl)
        · intro ac w' ph hF hPh hlt hP hU K hK0
          obtain rfl : ph = 0 := (hlt 0 11 rfl).1 rfl
          obtain rfl : w' = WD := hPh
          have e79 : ac.eval (.tmp 79) = .pointer (some ⟨xHXG, 34 + i, none⟩) := hP 10 (by kernel_rfl)
          have e77 : ac.eval (.tmp 77) = .int .u8 ((x ^^^ y).toNat : Int) := hP 8 (by kernel_rfl)
          exact rop_storeG _ _ _ rfl e79 e77 HST.out (wanted_none rfl) (hK0 _ _ trivial rfl trivial)
        · intro ac w' hF hPh hT
          obtain rfl : w' = WN := hPh
          rw [hF.setsG [69, 70, 71, 72, 73, 74, 75, 76, 77, 78, 79] (by kernel_rfl)]
          simp only [List.foldl_cons, List.foldl_nil, List.setIfInBounds_toArray, List.set_cons_succ, List.set_cons_zero]
          generalize ac.eval (.tmp 69) = u69
          generalize ac.eval (.tmp 70) = u70
          generalize ac.eval (.tmp 71) = u71
          generalize ac.eval (.tmp 72) = u72
          generalize ac.eval (.tmp 73) = u73
          generalize ac.eval (.tmp 74) = u74
          generalize ac.eval (.tmp 75) = u75
          generalize ac.eval (.tmp 76) = u76
          generalize ac.eval (.tmp 77) = u77
          generalize ac.eval (.tmp 78) = u78
          generalize ac.eval (.tmp 79) = u79
          clear  hT hF ac
          have HXG := gN
          have HBq := HBqN
          have HXA := HXAN
          have HXB := HXBN
          have HXU := HXUN
          have hb := hbN
          clear gN HBqN HXAN HXBN HXUN hbN HST HCG HCT HWD
          obtain ⟨WM, hWM⟩ : ∃ u, w' = u := ⟨_, rfl⟩
          rw [hWM] at HXG HBq HXA HXB HXU hb ⊢
          clear hWM
          obtain ⟨x, hx⟩ : ∃ x, x = GB.mac.getD i 0 := ⟨_, rfl⟩
          obtain ⟨y, hy⟩ : ∃ y, y = D.getD i 0 := ⟨_, rfl⟩
          have hm := mix_at GB.mac D i OKB.out.mac HDl.out hi32
          have hst := mix_step GB.mac D i OKB.out.mac HDl.out hi32
          rw [← hx] at hm hst
          rw [← hy] at hst
          obtain ⟨WD, hWD⟩ : ∃ u, u = WM.drew := ⟨_, rfl⟩
          obtain ⟨WN, hWN⟩ : ∃ u, u = WD.setCell ⟨xHXU, 35 + i, none⟩ (.int .u8 ((x ^^^ y).toNat : Int)) := ⟨_, rfl⟩
          have bd : Blk xHXU 29 (stCs ⟨GB.fz, GB.tim, mix GB.mac D i⟩) WD := by rw [hWD]; exact HXU
          have cg : WD.cell? ⟨xHXU, 35 + i, none⟩ = some (u8V x) := by
            have := (StAt.mac (show StAt xHXU _ WD from bd) OKB.out.fz.root) i (u8V x) (by rw [List.getElem?_map, hm]; rfl)
            exact this
          have ct : WD.cell? ⟨q, 0 + i, none⟩ = some (u8V y) := by
            have : Blk q 23 (D.map u8V) WD := by rw [hWD]; exact HBq
            rw [this.cell, Nat.zero_add, List.getElem?_map, hy, List.getD_eq_getElem?_getD, List.getElem?_eq_getElem (by have := HDl.out; omega)]
            rfl
          have HST : Hid ((Instr.storeAt 5 (.pointer (some ⟨xHXU, 35 + i, none⟩)) (.int .u8 ((x ^^^ y).toNat : Int))).run Tryd.prog WD = .ok () WN) := Lib.hid (by rw [hWN]; exact store_u8A cg (bd.fz _))
          have HCG := Lib.hid cg
          have HCT := Lib.hid ct
          have gN : Blk xHXU 29 (stCs ⟨GB.fz, GB.tim, mix GB.mac D (i + 1)⟩) WN := by
            have := blk_set bd (35 + i) (.int .u8 ((x ^^^ y).toNat : Int))
            rw [st_set _ _ _ _ _ OKB.out.fz.root, hst, ← hWN] at this
            exact this
          have oN : Only xHXU WM WN := by rw [hWN, hWD]; exact (Only.drewS (Only.refl xHXU WM)).setCell _ _
          have hbN := hb.trans (oN.below (B := w.heap.size) (by omega) hb.size)
          have HBqN := Blk.kept HBq oN (by omega)
          have HXAN := Blk.kept HXA oN (by omega)
          have HXBN := Blk.kept HXB oN (by omega)
          have HXGN := Blk.kept HXG oN (by omega)
          clear hWN cg ct bd hm hst hx hy oN HBq HXA HXB HXG HXU hb
          have HWD := Lib.hid hWD
          clear hWD
          go_upto_region 15 with fail
          try simp only [Act.put]
          refine wp_region_eff (Lx := fun _ _ => True) [RX.is (.int .i64 (i : Int)), RX.is (.int .i64 (i : Int)), RX.is (.pointer (some ⟨xHXU, 35, none⟩)), RX.is (.pointer (some ⟨xHXU, 35 + i, none⟩)), RX.is (.int .u8 (x.toNat : Int)), RX.is (.int .i64 (i : Int)), RX.is (.pointer (some ⟨q, 0 + i, none⟩)), RX.is (.int .u8 (y.toNat : Int)), RX.is (.int .u8 ((x ^^^ y).toNat : Int)), RX.is (.pointer (some ⟨xHXU, 35, none⟩)), RX.is (.pointer (some ⟨xHXU, 35 + i, none⟩)), RX.any] [11] (fun k w' => w' = [WD, WN].getD k WD) (by kernel_rfl) (by kernel_rfl) (by kernel_rfl) (by kernel_rfl) (by kernel_rfl) HWD.out.symm ⟨?_, ?_, ?_, ?_, ?_, ?_, ?_, ?_, ?_, ?_, ?_, ?_, trivial⟩ ?_
          · intro ac w' ph hF hPh hlt hP hU K hK0
            have e16 : ac.eval (.tmp 16) = .int .i64 (i : Int) := hF.at 16 (by kernel_rfl)
            exact rop_move _ rfl e16 (wanted_none rfl) (hK0 _ _ trivial hPh rfl)
          · intro ac w' ph hF hPh hlt hP hU K hK0
            have e16 : ac.eval (.tmp 16) = .int .i64 (i : Int) := hF.at 16 (by kernel_rfl)
            exact rop_move _ rfl e16 (wanted_none rfl) (hK0 _ _ trivial hPh rfl)
          · intro ac w' ph hF hPh hlt hP hU K hK0
            have e15 : ac.eval (.tmp 15) = .pointer (some ⟨xHXU, 0, none⟩) := hF.at 15 (by kernel_rfl)
            exact rop_fld _ _ _ rfl e15 ((fld_st xHXU 0 _).2.2) (wanted_none rfl) (hK0 _ _ trivial hPh rfl)
          · intro ac w' ph hF hPh hlt hP hU K hK0
            have e82 : ac.eval (.tmp 82) = .pointer (some ⟨xHXU, 35, none⟩) := hP 2 (by kernel_rfl)
            have e81 : ac.eval (.tmp 81) = .int .i64 (i : Int) := hP 1 (by kernel_rfl)
            exact rop_idx _ _ _ rfl e82 e81 (idx_sumA xHXU 35 i hi32 _) (wanted_none rfl) (hK0 _ _ trivial hPh rfl)
          · intro ac w' ph hF hPh hlt hP hU K hK0
            obtain rfl : ph = 0 := Nat.le_zero.1 ((hlt 0 11 rfl).2 (by kernel_rfl))
            obtain rfl : w' = WD := hPh
            have e83 : ac.eval (.tmp 83) = .pointer (some ⟨xHXU, 35 + i, none⟩) := hP 3 (by kernel_rfl)
            exact rop_ld _ _ rfl e83 (load_u8A HCG.out) (wanted_none rfl) (hK0 _ _ trivial rfl rfl)
          · intro ac w' ph hF hPh hlt hP hU K hK0
            have e16 : ac.eval (.tmp 16) = .int .i64 (i : Int) := hF.at 16 (by kernel_rfl)
            exact rop_move _ rfl e16 (wanted_none rfl) (hK0 _ _ trivial hPh rfl)
          · intro ac w' ph hF hPh hlt hP hU K hK0
            have e5 : ac.eval (.tmp 5) = .pointer (some ⟨q, 0, none⟩) := hF.at 5 (by kernel_rfl)
            have e85 : ac.eval (.tmp 85) = .int .i64 (i : Int) := hP 5 (by kernel_rfl)
            exact rop_idx _ _ _ rfl e5 e85 (idx_sumA q 0 i hi32 _) (wanted_none rfl) (hK0 _ _ trivial hPh rfl)
          · intro ac w' ph hF hPh hlt hP hU K hK0
            obtain rfl : ph = 0 := Nat.le_zero.1 ((hlt 0 11 rfl).2 (by kernel_rfl))
            obtain rfl : w' = WD := hPh
            have e86 : ac.eval (.tmp 86) = .pointer (some ⟨q, 0 + i, none⟩) := hP 6 (by kernel_rfl)
            exact rop_ld _ _ rfl e86 (load_u8A HCT.out) (wanted_none rfl) (hK0 _ _ trivial rfl rfl)
          · intro ac w' ph hF hPh hlt hP hU K hK0
            have e84 : ac.eval (.tmp 84) = .int .u8 (x.toNat : Int) := hP 4 (by kernel_rfl)
            have e87 : ac.eval (.tmp 87) = .int .u8 (y.toNat : Int) := hP 7 (by kernel_rfl)
            exact rop_bin _ _ _ _ _ rfl e84 e87 (guard_int _ _ _ _ _ _ _ w') (xor_u8A x y w') (wanted_none rfl) (hK0 _ _ trivial hPh rfl)
          · intro ac w' ph hF hPh hlt hP hU K hK0
            have e15 : ac.eval (.tmp 15) = .pointer (some ⟨xHXU, 0, none⟩) := hF.at 15 (by kernel_rfl)
            exact rop_fld _ _ _ rfl e15 ((fld_st xHXU 0 _).2.2) (wanted_none rfl) (hK0 _ _ trivial hPh rfl)
          · intro ac w' ph hF hPh hlt hP hU K hK0
            have e89 : ac.eval (.tmp 89) = .pointer (some ⟨xHXU, 35, none⟩) := hP 9 (by kernel_rfl)
            have e80 : ac.eval (.tmp 80) = .int .i64 (i : Int) := hP 0 (by kernel_rfl)
            exact rop_idx _ _ _ rfl e89 e80 (idx_sumA xHXU 35 i hi32 _) (wanted_none rfl) (hK0 _ _ trivial hPh rfl)
          · intro ac w' ph hF hPh hlt hP hU K hK0
            obtain rfl : ph = 0 := (hlt 0 11 rfl).1 rfl
            obtain rfl : w' = WD := hPh
            have e90 : ac.eval (.tmp 90) = .pointer (some ⟨xHXU, 35 + i, none⟩) := hP 10 (by kernel_rfl)
            have e88 : ac.eval (.tmp 88) = .int .u8 ((x ^^^ y).toNat : Int) := hP 8 (by kernel_rfl)
            exact rop_storeG _ _ _ rfl e90 e88 HST.out (wanted_none rfl) (hK0 _ _ trivial rfl trivial)
          · intro ac w' hF hPh hT
            obtain rfl : w' = WN := hPh
            rw [hF.setsG [80, 81, 82, 83, 84, 85, 86, 87, 88, 89, 90] (by kernel_rfl)]
            simp only [List.foldl_cons, List.foldl_nil, List.setIfInBounds_toArray, List.set_cons_succ, List.set_cons_zero]
            generalize ac.eval (.tmp 80) = u80
            generalize ac.eval (.tmp 81) = u81
            generalize ac.eval (.tmp 82) = u82
            generalize ac.eval (.tmp 83) = u83
            generalize ac.eval (.tmp 84) = u84
            generalize ac.eval (.tmp 85) = u85
            generalize ac.eval (.tmp 86) = u86
            generalize ac.eval (.tmp 87) = u87
            generalize ac.eval (.tmp 88) = u88
            generalize ac.eval (.tmp 89) = u89
            generalize ac.eval (.tmp 90) = u90
            clear  hT hF ac
            clear HST HCG HCT HWD
            go_wp2
            go_roundw
            case rel => exact ⟨i + 1, by omega, by go_num, HBqN, HXAN, HXBN, HXGN, gN, hbN⟩
            case measure => simp [intOf]; omega
      · obtain rfl : 32 = i := by omega
        rw [mix_32 _ _ OKA.out.mac HDl.out, ← HGG.out] at HXG
        rw [mix_32 _ _ OKB.out.mac HDl.out, ← HGU.out] at HXU
        have HKR : Hid (KT wr) := Lib.hid (HKA.out.old hb)
        clear hi hi32 HGG HGU
        go_upto_region 16 with fail
        by_cases zbA : bA = true
        · skip
          by_cases zbB : bB = true
          · skip
            have HRG' : Hid (∀ u, KT u → Calls Tryd.prog 29 #[.string S, .agg (hdCs GG).toArray] u fun e w' => e = .returned (.bool (decide (GG = GA))) ∧ Below u.heap.size u w') := Lib.hid fun u hu => by
              have h := HRG.out u hu
              rw [zbA] at h
              exact h
            have HRU' : Hid (∀ u, KT u → Calls Tryd.prog 31 #[.string S, .agg (stCs GU).toArray] u fun e w' => e = .returned (.bool (decide (GU = GB))) ∧ Below u.heap.size u w') := Lib.hid fun u hu => by
              have h := HRU.out u hu
              rw [zbB] at h
              exact h
            try simp only [Act.put]
            refine wp_region_tab0 [RT.is (.bool true), RT.is (.bool true), RT.is (.string S), RT.is (.agg (hdCs GG).toArray), RT.is (.bool (decide (GG = GA))), RT.is (.int .i64 eA), RT.is (.bool true), RT.is (.bool true), RT.is (.agg (hdCs GG).toArray), RT.is (.agg (hdCs GA).toArray), RT.is (.bool (decide (GG = GA))), RT.is (.bool (decide (GG = GA))), RT.is (.bool true), RT.is (.bool true), RT.is (.bool true), RT.is (.string S), RT.is (.agg (stCs GU).toArray), RT.is (.bool (decide (GU = GB))), RT.is (.int .i64 eB), RT.is (.bool true), RT.is (.bool true), RT.is (.agg (stCs GU).toArray), RT.is (.agg (stCs GB).toArray), RT.is (.bool (decide (GU = GB))), RT.is (.bool (decide (GU = GB))), RT.is (.bool true), RT.is (.bool true), RT.is (.bool true)] (by kernel_rfl) (by kernel_rfl) (by kernel_rfl) ⟨?_, ?_, ?_, ?_, ?_, ?_, ?_, ?_, ?_, ?_, ?_, ?_, ?_, ?_, ?_, ?_, ?_, ?_, ?_, ?_, ?_, ?_, ?_, ?_, ?_, ?_, ?_, ?_, trivial⟩ ?_
            · intro ac w' hF hL hP hU K hK
              have hB : Below _ _ _ := hL
              have e7 : ac.eval (.tmp 7) = .bool true := hF.at 7 (by kernel_rfl)
              exact rop_move _ rfl e7 (wanted_none rfl) (hK _ _ (le8_refl _) rfl)
            · intro ac w' hF hL hP hU K hK
              have hB : Below _ _ _ := hL
              have e91 : ac.eval (.tmp 91) = .bool true := hP 0 (by kernel_rfl)
              exact rop_move _ rfl e91 (wanted_none rfl) (hK _ _ (le8_refl _) rfl)
            · intro ac w' hF hL hP hU K hK
              have hB : Below _ _ _ := hL
              have e0 : ac.eval (.tmp 0) = .string S := hF.at 0 (by kernel_rfl)
              have e92 : ac.eval (.tmp 92) = .bool true := hP 1 (by kernel_rfl)
              exact rop_move _ rfl e0 (wanted_of (j := 1) (b := true) rfl rfl e92) (hK _ _ (le8_refl _) rfl)
            · intro ac w' hF hL hP hU K hK
              have hB : Below _ _ _ := hL
              have e14 : ac.eval (.tmp 14) = .pointer (some ⟨xHXG, 0, none⟩) := hF.at 14 (by kernel_rfl)
              have e92 : ac.eval (.tmp 92) = .bool true := hP 1 (by kernel_rfl)
              exact rop_ld _ _ rfl e14 (load_hdAt (below_range' hB (Blk.lt HXG) (Blk.all HXG)) OKG.out.root OKG.out.mac) (wanted_of (j := 1) (b := true) rfl rfl e92) (hK _ _ (le8_refl _) rfl)
            · intro ac w' hF hL hP hU K hK
              have hB : Below _ _ _ := hL
              have e93 : ac.eval (.tmp 93) = .string S := hP 2 (by kernel_rfl)
              have e94 : ac.eval (.tmp 94) = .agg (hdCs GG).toArray := hP 3 (by kernel_rfl)
              have e92 : ac.eval (.tmp 92) = .bool true := hP 1 (by kernel_rfl)
              refine rop_call 29 _ _ rfl #[.string S, .agg (hdCs GG).toArray] (by simp [e93, e94]) (by kernel_rfl) (wanted_of (j := 1) (b := true) rfl rfl e92) ?_
              refine (HRG'.out w' (HKR.out.old hB)).mono ?_
              rintro e w2 ⟨rfl, hb⟩
              exact ⟨_, rfl, hK _ _ hb rfl⟩
            · intro ac w' hF hL hP hU K hK
              have hB : Below _ _ _ := hL
              have e11 : ac.eval (.tmp 11) = .int .i64 eA := hF.at 11 (by kernel_rfl)
              have e92 : ac.eval (.tmp 92) = .bool true := hP 1 (by kernel_rfl)
              exact rop_move _ rfl e11 (wanted_of (j := 1) (b := true) rfl rfl e92) (hK _ _ (le8_refl _) rfl)
            · intro ac w' hF hL hP hU K hK
              have hB : Below _ _ _ := hL
              have e96 : ac.eval (.tmp 96) = .int .i64 eA := hP 5 (by kernel_rfl)
              have e92 : ac.eval (.tmp 92) = .bool true := hP 1 (by kernel_rfl)
              exact rop_bin _ _ _ _ _ rfl e96 rfl (guard_int _ _ _ _ _ _ _ w') ((HEA.out w').trans (by rw [zbA])) (wanted_of (j := 1) (b := true) rfl rfl e92) (hK _ _ (le8_refl _) rfl)
            · intro ac w' hF hL hP hU K hK
              have hB : Below _ _ _ := hL
              have e97 : ac.eval (.tmp 97) = .bool true := hP 6 (by kernel_rfl)
              have e92 : ac.eval (.tmp 92) = .bool true := hP 1 (by kernel_rfl)
              exact rop_move _ rfl e97 (wanted_of (j := 1) (b := true) rfl rfl e92) (hK _ _ (le8_refl _) rfl)
            · intro ac w' hF hL hP hU K hK
              have hB : Below _ _ _ := hL
              have e14 : ac.eval (.tmp 14) = .pointer (some ⟨xHXG, 0, none⟩) := hF.at 14 (by kernel_rfl)
              have e98 : ac.eval (.tmp 98) = .bool true := hP 7 (by kernel_rfl)
              exact rop_ld _ _ rfl e14 (load_hdAt (below_range' hB (Blk.lt HXG) (Blk.all HXG)) OKG.out.root OKG.out.mac) (wanted_of (j := 7) (b := true) rfl rfl e98) (hK _ _ (le8_refl _) rfl)
            · intro ac w' hF hL hP hU K hK
              have hB : Below _ _ _ := hL
              have e8 : ac.eval (.tmp 8) = .pointer (some ⟨xHXA, 0, none⟩) := hF.at 8 (by kernel_rfl)
              have e98 : ac.eval (.tmp 98) = .bool true := hP 7 (by kernel_rfl)
              exact rop_ld _ _ rfl e8 (load_hdAt (below_range' hB (Blk.lt HXA) (Blk.all HXA)) OKA.out.root OKA.out.mac) (wanted_of (j := 7) (b := true) rfl rfl e98) (hK _ _ (le8_refl _) rfl)
            · intro ac w' hF hL hP hU K hK
              have hB : Below _ _ _ := hL
              have e99 : ac.eval (.tmp 99) = .agg (hdCs GG).toArray := hP 8 (by kernel_rfl)
              have e100 : ac.eval (.tmp 100) = .agg (hdCs GA).toArray := hP 9 (by kernel_rfl)
              have e98 : ac.eval (.tmp 98) = .bool true := hP 7 (by kernel_rfl)
              exact rop_bin _ _ _ _ _ rfl e99 e100 (guard_hd .eql _ _ _ _ w') (eql_hd GG GA OKG.out OKA.out w') (wanted_of (j := 7) (b := true) rfl rfl e98) (hK _ _ (le8_refl _) rfl)
            · intro ac w' hF hL hP hU K hK
              have hB : Below _ _ _ := hL
              have e98 : ac.eval (.tmp 98) = .bool true := hP 7 (by kernel_rfl)
              have e101 : ac.eval (.tmp 101) = .bool (decide (GG = GA)) := hP 10 (by kernel_rfl)
              have e92 : ac.eval (.tmp 92) = .bool true := hP 1 (by kernel_rfl)
              exact rop_pick _ _ _ rfl true e98 (by simpa using e101) (wanted_of (j := 1) (b := true) rfl rfl e92) (hK _ _ (le8_refl _) rfl)
            · intro ac w' hF hL hP hU K hK
              have hB : Below _ _ _ := hL
              have e95 : ac.eval (.tmp 95) = .bool (decide (GG = GA)) := hP 4 (by kernel_rfl)
              have e102 : ac.eval (.tmp 102) = .bool (decide (GG = GA)) := hP 11 (by kernel_rfl)
              have e92 : ac.eval (.tmp 92) = .bool true := hP 1 (by kernel_rfl)
              exact rop_bin _ _ _ _ _ rfl e95 e102 (guard_boolS _ _ _ _ _ _ w') (eql_bool_same _ w') (wanted_of (j := 1) (b := true) rfl rfl e92) (hK _ _ (le8_refl _) rfl)
            · intro ac w' hF hL hP hU K hK
              have hB : Below _ _ _ := hL
              have e92 : ac.eval (.tmp 92) = .bool true := hP 1 (by kernel_rfl)
              have e103 : ac.eval (.tmp 103) = .bool true := hP 12 (by kernel_rfl)
              exact rop_pick _ _ _ rfl true e92 (by simpa using e103) (wanted_none rfl) (hK _ _ (le8_refl _) rfl)
            · intro ac w' hF hL hP hU K hK
              have hB : Below _ _ _ := hL
              have e104 : ac.eval (.tmp 104) = .bool true := hP 13 (by kernel_rfl)
              exact rop_move _ rfl e104 (wanted_none rfl) (hK _ _ (le8_refl _) rfl)
            · intro ac w' hF hL hP hU K hK
              have hB : Below _ _ _ := hL
              have e0 : ac.eval (.tmp 0) = .string S := hF.at 0 (by kernel_rfl)
              have e105 : ac.eval (.tmp 105) = .bool true := hP 14 (by kernel_rfl)
              exact rop_move _ rfl e0 (wanted_of (j := 14) (b := true) rfl rfl e105) (hK _ _ (le8_refl _) rfl)
            · intro ac w' hF hL hP hU K hK
              have hB : Below _ _ _ := hL
              have e15 : ac.eval (.tmp 15) = .pointer (some ⟨xHXU, 0, none⟩) := hF.at 15 (by kernel_rfl)
              have e105 : ac.eval (.tmp 105) = .bool true := hP 14 (by kernel_rfl)
              exact rop_ld _ _ rfl e15 (load_stAt (below_range' hB (Blk.lt HXU) (Blk.all HXU)) OKU.out.fz.root OKU.out.mac) (wanted_of (j := 14) (b := true) rfl rfl e105) (hK _ _ (le8_refl _) rfl)
            · intro ac w' hF hL hP hU K hK
              have hB : Below _ _ _ := hL
              have e106 : ac.eval (.tmp 106) = .string S := hP 15 (by kernel_rfl)
              have e107 : ac.eval (.tmp 107) = .agg (stCs GU).toArray := hP 16 (by kernel_rfl)
              have e105 : ac.eval (.tmp 105) = .bool true := hP 14 (by kernel_rfl)
              refine rop_call 31 _ _ rfl #[.string S, .agg (stCs GU).toArray] (by simp [e106, e107]) (by kernel_rfl) (wanted_of (j := 14) (b := true) rfl rfl e105) ?_
              refine (HRU'.out w' (HKR.out.old hB)).mono ?_
              rintro e w2 ⟨rfl, hb⟩
              exact ⟨_, rfl, hK _ _ hb rfl⟩
            · intro ac w' hF hL hP hU K hK
              have hB : Below _ _ _ := hL
              have e13 : ac.eval (.tmp 13) = .int .i64 eB := hF.at 13 (by kernel_rfl)
              have e105 : ac.eval (.tmp 105) = .bool true := hP 14 (by kernel_rfl)
              exact rop_move _ rfl e13 (wanted_of (j := 14) (b := true) rfl rfl e105) (hK _ _ (le8_refl _) rfl)
            · intro ac w' hF hL hP hU K hK
              have hB : Below _ _ _ := hL
              have e109 : ac.eval (.tmp 109) = .int .i64 eB := hP 18 (by kernel_rfl)
              have e105 : ac.eval (.tmp 105) = .bool true := hP 14 (by kernel_rfl)
              exact rop_bin _ _ _ _ _ rfl e109 rfl (guard_int _ _ _ _ _ _ _ w') ((HEB.out w').trans (by rw [zbB])) (wanted_of (j := 14) (b := true) rfl rfl e105) (hK _ _ (le8_refl _) rfl)
            · intro ac w' hF hL hP hU K hK
              have hB : Below _ _ _ := hL
              have e110 : ac.eval (.tmp 110) = .bool true := hP 19 (by kernel_rfl)
              have e105 : ac.eval (.tmp 105) = .bool true := hP 14 (by kernel_rfl)
              exact rop_move _ rfl e110 (wanted_of (j := 14) (b := true) rfl rfl e105) (hK _ _ (le8_refl _) rfl)
            · intro ac w' hF hL hP hU K hK
              have hB : Below _ _ _ := hL
              have e15 : ac.eval (.tmp 15) = .pointer (some ⟨xHXU, 0, none⟩) := hF.at 15 (by kernel_rfl)
              have e111 : ac.eval (.tmp 111) = .bool true := hP 20 (by kernel_rfl)
              exact rop_ld _ _ rfl e15 (load_stAt (below_range' hB (Blk.lt HXU) (Blk.all HXU)) OKU.out.fz.root OKU.out.mac) (wanted_of (j := 20) (b := true) rfl rfl e111) (hK _ _ (le8_refl _) rfl)
            · intro ac w' hF hL hP hU K hK
              have hB : Below _ _ _ := hL
              have e9 : ac.eval (.tmp 9) = .pointer (some ⟨xHXB, 0, none⟩) := hF.at 9 (by kernel_rfl)
              have e111 : ac.eval (.tmp 111) = .bool true := hP 20 (by kernel_rfl)
              exact rop_ld _ _ rfl e9 (load_stAt (below_range' hB (Blk.lt HXB) (Blk.all HXB)) OKB.out.fz.root OKB.out.mac) (wanted_of (j := 20) (b := true) rfl rfl e111) (hK _ _ (le8_refl _) rfl)
            · intro ac w' hF hL hP hU K hK
              have hB : Below _ _ _ := hL
              have e112 : ac.eval (.tmp 112) = .agg (stCs GU).toArray := hP 21 (by kernel_rfl)
              have e113 : ac.eval (.tmp 113) = .agg (stCs GB).toArray := hP 22 (by kernel_rfl)
              have e111 : ac.eval (.tmp 111) = .bool true := hP 20 (by kernel_rfl)
              exact rop_bin _ _ _ _ _ rfl e112 e113 (guard_st .eql _ _ _ _ w') (eql_st GU GB OKU.out OKB.out w') (wanted_of (j := 20) (b := true) rfl rfl e111) (hK _ _ (le8_refl _) rfl)
            · intro ac w' hF hL hP hU K hK
              have hB : Below _ _ _ := hL
              have e111 : ac.eval (.tmp 111) = .bool true := hP 20 (by kernel_rfl)
              have e114 : ac.eval (.tmp 114) = .bool (decide (GU = GB)) := hP 23 (by kernel_rfl)
              have e105 : ac.eval (.tmp 105) = .bool true := hP 14 (by kernel_rfl)
              exact rop_pick _ _ _ rfl true e111 (by simpa using e114) (wanted_of (j := 14) (b := true) rfl rfl e105) (hK _ _ (le8_refl _) rfl)
            · intro ac w' hF hL hP hU K hK
              have hB : Below _ _ _ := hL
              have e108 : ac.eval (.tmp 108) = .bool (decide (GU = GB)) := hP 17 (by kernel_rfl)
              have e115 : ac.eval (.tmp 115) = .bool (decide (GU = GB)) := hP 24 (by kernel_rfl)
              have e105 : ac.eval (.tmp 105) = .bool true := hP 14 (by kernel_rfl)
              exact rop_bin _ _ _ _ _ rfl e108 e115 (guard_boolS _ _ _ _ _ _ w') (eql_bool_same _ w') (wanted_of (j := 14) (b := true) rfl rfl e105) (hK _ _ (le8_refl _) rfl)
            · intro ac w' hF hL hP hU K hK
              have hB : Below _ _ _ := hL
              have e105 : ac.eval (.tmp 105) = .bool true := hP 14 (by kernel_rfl)
              have e116 : ac.eval (.tmp 116) = .bool true := hP 25 (by kernel_rfl)
              exact rop_pick _ _ _ rfl true e105 (by simpa using e116) (wanted_none rfl) (hK _ _ (le8_refl _) rfl)
            · intro ac w' hF hL hP hU K hK
              have hB : Below _ _ _ := hL
              have e117 : ac.eval (.tmp 117) = .bool true := hP 26 (by kernel_rfl)
              exact rop_assign _ rfl e117 (wanted_none rfl) (hK _ _ (le8_refl _) rfl)
            · intro ac w' hF hB hT
              have e6 : ac.eval (.tmp 6) = .bool true := hT 27 (by decide)
              rw [hF.setsG [91, 92, 93, 94, 95, 96, 97, 98, 99, 100, 101, 102, 103, 104, 105, 106, 107, 108, 109, 110, 111, 112, 113, 114, 115, 116, 117, 6] (by kernel_rfl)]
              simp only [List.foldl_cons, List.foldl_nil, List.setIfInBounds_toArray, List.set_cons_succ, List.set_cons_zero, e6]
              generalize ac.eval (.tmp 91) = u91
              generalize ac.eval (.tmp 92) = u92
              generalize ac.eval (.tmp 93) = u93
              generalize ac.eval (.tmp 94) = u94
              generalize ac.eval (.tmp 95) = u95
              generalize ac.eval (.tmp 96) = u96
              generalize ac.eval (.tmp 97) = u97
              generalize ac.eval (.tmp 98) = u98
              generalize ac.eval (.tmp 99) = u99
              generalize ac.eval (.tmp 100) = u100
              generalize ac.eval (.tmp 101) = u101
              generalize ac.eval (.tmp 102) = u102
              generalize ac.eval (.tmp 103) = u103
              generalize ac.eval (.tmp 104) = u104
              generalize ac.eval (.tmp 105) = u105
              generalize ac.eval (.tmp 106) = u106
              generalize ac.eval (.tmp 107) = u107
              generalize ac.eval (.tmp 108) = u108
              generalize ac.eval (.tmp 109) = u109
              generalize ac.eval (.tmp 110) = u110
              generalize ac.eval (.tmp 111) = u111
              generalize ac.eval (.tmp 112) = u112
              generalize ac.eval (.tmp 113) = u113
              generalize ac.eval (.tmp 114) = u114
              generalize ac.eval (.tmp 115) = u115
              generalize ac.eval (.tmp 116) = u116
              generalize ac.eval (.tmp 117) = u117
              clear e6 hT hF ac
              have hbw := below_step hb (Nat.le_refl _) hB
              clear hB
              go_wp2
              go_ret
              exact ⟨rfl, hbw⟩
          · replace zbB : bB = false := by simpa using zbB
            have HRG' : Hid (∀ u, KT u → Calls Tryd.prog 29 #[.string S, .agg (hdCs GG).toArray] u fun e w' => e = .returned (.bool (decide (GG = GA))) ∧ Below u.heap.size u w') := Lib.hid fun u hu => by
              have h := HRG.out u hu
              rw [zbA] at h
              exact h
            have HRU' : Hid (∀ u, KT u → Calls Tryd.prog 31 #[.string S, .agg (stCs GU).toArray] u fun e w' => e = .returned (.bool false) ∧ Below u.heap.size u w') := Lib.hid fun u hu => by
              have h := HRU.out u hu
              rw [zbB] at h
              exact h
            try simp only [Act.put]
            refine wp_region_tab0 [RT.is (.bool true), RT.is (.bool true), RT.is (.string S), RT.is (.agg (hdCs GG).toArray), RT.is (.bool (decide (GG = GA))), RT.is (.int .i64 eA), RT.is (.bool true), RT.is (.bool true), RT.is (.agg (hdCs GG).toArray), RT.is (.agg (hdCs GA).toArray), RT.is (.bool (decide (GG = GA))), RT.is (.bool (decide (GG = GA))), RT.is (.bool true), RT.is (.bool true), RT.is (.bool true), RT.is (.string S), RT.is (.agg (stCs GU).toArray), RT.is (.bool false), RT.is (.int .i64 eB), RT.is (.bool false), RT.is (.bool false), RT.is undef, RT.is undef, RT.is undef, RT.is (.bool false), RT.is (.bool true), RT.is (.bool true), RT.is (.bool true)] (by kernel_rfl) (by kernel_rfl) (by kernel_rfl) ⟨?_, ?_, ?_, ?_, ?_, ?_, ?_, ?_, ?_, ?_, ?_, ?_, ?_, ?_, ?_, ?_, ?_, ?_, ?_, ?_, ?_, ?_, ?_, ?_, ?_, ?_, ?_, ?_, trivial⟩ ?_
            · intro ac w' hF hL hP hU K hK
              have hB : Below _ _ _ := hL
              have e7 : ac.eval (.tmp 7) = .bool true := hF.at 7 (by kernel_rfl)
              exact rop_move _ rfl e7 (wanted_none rfl) (hK _ _ (le8_refl _) rfl)
            · intro ac w' hF hL hP hU K hK
              have hB : Below _ _ _ := hL
              have e91 : ac.eval (.tmp 91) = .bool true := hP 0 (by kernel_rfl)
              exact rop_move _ rfl e91 (wanted_none rfl) (hK _ _ (le8_refl _) rfl)
            · intro ac w' hF hL hP hU K hK
              have hB : Below _ _ _ := hL
              have e0 : ac.eval (.tmp 0) = .string S := hF.at 0 (by kernel_rfl)
              have e92 : ac.eval (.tmp 92) = .bool true := hP 1 (by kernel_rfl)
              exact rop_move _ rfl e0 (wanted_of (j := 1) (b := true) rfl rfl e92) (hK _ _ (le8_refl _) rfl)
            · intro ac w' hF hL hP hU K hK
              have hB : Below _ _ _ := hL
              have e14 : ac.eval (.tmp 14) = .pointer (some ⟨xHXG, 0, none⟩) := hF.at 14 (by kernel_rfl)
              have e92 : ac.eval (.tmp 92) = .bool true := hP 1 (by kernel_rfl)
              exact rop_ld _ _ rfl e14 (load_hdAt (below_range' hB (Blk.lt HXG) (Blk.all HXG)) OKG.out.root OKG.out.mac) (wanted_of (j := 1) (b := true) rfl rfl e92) (hK _ _ (le8_refl _) rfl)
            · intro ac w' hF hL hP hU K hK
              have hB : Below _ _ _ := hL
              have e93 : ac.eval (.tmp 93) = .string S := hP 2 (by kernel_rfl)
              have e94 : ac.eval (.tmp 94) = .agg (hdCs GG).toArray := hP 3 (by kernel_rfl)
              have e92 : ac.eval (.tmp 92) = .bool true := hP 1 (by kernel_rfl)
              refine rop_call 29 _ _ rfl #[.string S, .agg (hdCs GG).toArray] (by simp [e93, e94]) (by kernel_rfl) (wanted_of (j := 1) (b := true) rfl rfl e92) ?_
              refine (HRG'.out w' (HKR.out.old hB)).mono ?_
              rintro e w2 ⟨rfl, hb⟩
              exact ⟨_, rfl, hK _ _ hb rfl⟩
            · intro ac w' hF hL hP hU K hK
              have hB : Below _ _ _ := hL
              have e11 : ac.eval (.tmp 11) = .int .i64 eA := hF.at 11 (by kernel_rfl)
              have e92 : ac.eval (.tmp 92) = .bool true := hP 1 (by kernel_rfl)
              exact rop_move _ rfl e11 (wanted_of (j := 1) (b := true) rfl rfl e92) (hK _ _ (le8_refl _) rfl)
            · intro ac w' hF hL hP hU K hK
              have hB : Below _ _ _ := hL
              have e96 : ac.eval (.tmp 96) = .int .i64 eA := hP 5 (by kernel_rfl)
              have e92 : ac.eval (.tmp 92) = .bool true := hP 1 (by kernel_rfl)
              exact rop_bin _ _ _ _ _ rfl e96 rfl (guard_int _ _ _ _ _ _ _ w') ((HEA.out w').trans (by rw [zbA])) (wanted_of (j := 1) (b := true) rfl rfl e92) (hK _ _ (le8_refl _) rfl)
            · intro ac w' hF hL hP hU K hK
              have hB : Below _ _ _ := hL
              have e97 : ac.eval (.tmp 97) = .bool true := hP 6 (by kernel_rfl)
              have e92 : ac.eval (.tmp 92) = .bool true := hP 1 (by kernel_rfl)
              exact rop_move _ rfl e97 (wanted_of (j := 1) (b := true) rfl rfl e92) (hK _ _ (le8_refl _) rfl)
            · intro ac w' hF hL hP hU K hK
              have hB : Below _ _ _ := hL
              have e14 : ac.eval (.tmp 14) = .pointer (some ⟨xHXG, 0, none⟩) := hF.at 14 (by kernel_rfl)
              have e98 : ac.eval (.tmp 98) = .bool true := hP 7 (by kernel_rfl)
              exact rop_ld _ _ rfl e14 (load_hdAt (below_range' hB (Blk.lt HXG) (Blk.all HXG)) OKG.out.root OKG.out.mac) (wanted_of (j := 7) (b := true) rfl rfl e98) (hK _ _ (le8_refl _) rfl)
            · intro ac w' hF hL hP hU K hK
              have hB : Below _ _ _ := hL
              have e8 : ac.eval (.tmp 8) = .pointer (some ⟨xHXA, 0, none⟩) := hF.at 8 (by kernel_rfl)
              have e98 : ac.eval (.tmp 98) = .bool true := hP 7 (by kernel_rfl)
              exact rop_ld _ _ rfl e8 (load_hdAt (below_range' hB (Blk.lt HXA) (Blk.all HXA)) OKA.out.root OKA.out.mac) (wanted_of (j := 7) (b := true) rfl rfl e98) (hK _ _ (le8_refl _) rfl)
            · intro ac w' hF hL hP hU K hK
              have hB : Below _ _ _ := hL
              have e99 : ac.eval (.tmp 99) = .agg (hdCs GG).toArray := hP 8 (by kernel_rfl)
              have e100 : ac.eval (.tmp 100) = .agg (hdCs GA).toArray := hP 9 (by kernel_rfl)
              have e98 : ac.eval (.tmp 98) = .bool true := hP 7 (by kernel_rfl)
              exact rop_bin _ _ _ _ _ rfl e99 e100 (guard_hd .eql _ _ _ _ w') (eql_hd GG GA OKG.out OKA.out w') (wanted_of (j := 7) (b := true) rfl rfl e98) (hK _ _ (le8_refl _) rfl)
            · intro ac w' hF hL hP hU K hK
              have hB : Below _ _ _ := hL
              have e98 : ac.eval (.tmp 98) = .bool true := hP 7 (by kernel_rfl)
              have e101 : ac.eval (.tmp 101) = .bool (decide (GG = GA)) := hP 10 (by kernel_rfl)
              have e92 : ac.eval (.tmp 92) = .bool true := hP 1 (by kernel_rfl)
              exact rop_pick _ _ _ rfl true e98 (by simpa using e101) (wanted_of (j := 1) (b := true) rfl rfl e92) (hK _ _ (le8_refl _) rfl)
            · intro ac w' hF hL hP hU K hK
              have hB : Below _ _ _ := hL
              have e95 : ac.eval (.tmp 95) = .bool (decide (GG = GA)) := hP 4 (by kernel_rfl)
              have e102 : ac.eval (.tmp 102) = .bool (decide (GG = GA)) := hP 11 (by kernel_rfl)
              have e92 : ac.eval (.tmp 92) = .bool true := hP 1 (by kernel_rfl)
              exact rop_bin _ _ _ _ _ rfl e95 e102 (guard_boolS _ _ _ _ _ _ w') (eql_bool_same _ w') (wanted_of (j := 1) (b := true) rfl rfl e92) (hK _ _ (le8_refl _) rfl)
            · intro ac w' hF hL hP hU K hK
              have hB : Below _ _ _ := hL
              have e92 : ac.eval (.tmp 92) = .bool true := hP 1 (by kernel_rfl)
              have e103 : ac.eval (.tmp 103) = .bool true := hP 12 (by kernel_rfl)
              exact rop_pick _ _ _ rfl true e92 (by simpa using e103) (wanted_none rfl) (hK _ _ (le8_refl _) rfl)
            · intro ac w' hF hL hP hU K hK
              have hB : Below _ _ _ := hL
              have e104 : ac.eval (.tmp 104) = .bool true := hP 13 (by kernel_rfl)
              exact rop_move _ rfl e104 (wanted_none rfl) (hK _ _ (le8_refl _) rfl)
            · intro ac w' hF hL hP hU K hK
              have hB : Below _ _ _ := hL
              have e0 : ac.eval (.tmp 0) = .string S := hF.at 0 (by kernel_rfl)
              have e105 : ac.eval (.tmp 105) = .bool true := hP 14 (by kernel_rfl)
              exact rop_move _ rfl e0 (wanted_of (j := 14) (b := true) rfl rfl e105) (hK _ _ (le8_refl _) rfl)
            · intro ac w' hF hL hP hU K hK
              have hB : Below _ _ _ := hL
              have e15 : ac.eval (.tmp 15) = .pointer (some ⟨xHXU, 0, none⟩) := hF.at 15 (by kernel_rfl)
              have e105 : ac.eval (.tmp 105) = .bool true := hP 14 (by kernel_rfl)
              exact rop_ld _ _ rfl e15 (load_stAt (below_range' hB (Blk.lt HXU) (Blk.all HXU)) OKU.out.fz.root OKU.out.mac) (wanted_of (j := 14) (b := true) rfl rfl e105) (hK _ _ (le8_refl _) rfl)
            · intro ac w' hF hL hP hU K hK
              have hB : Below _ _ _ := hL
              have e106 : ac.eval (.tmp 106) = .string S := hP 15 (by kernel_rfl)
              have e107 : ac.eval (.tmp 107) = .agg (stCs GU).toArray := hP 16 (by kernel_rfl)
              have e105 : ac.eval (.tmp 105) = .bool true := hP 14 (by kernel_rfl)
              refine rop_call 31 _ _ rfl #[.string S, .agg (stCs GU).toArray] (by simp [e106, e107]) (by kernel_rfl) (wanted_of (j := 14) (b := true) rfl rfl e105) ?_
              refine (HRU'.out w' (HKR.out.old hB)).mono ?_
              rintro e w2 ⟨rfl, hb⟩
              exact ⟨_, rfl, hK _ _ hb rfl⟩
            · intro ac w' hF hL hP hU K hK
              have hB : Below _ _ _ := hL
              have e13 : ac.eval (.tmp 13) = .int .i64 eB := hF.at 13 (by kernel_rfl)
              have e105 : ac.eval (.tmp 105) = .bool true := hP 14 (by kernel_rfl)
              exact rop_move _ rfl e13 (wanted_of (j := 14) (b := true) rfl rfl e105) (hK _ _ (le8_refl _) rfl)
            · intro ac w' hF hL hP hU K hK
              have hB : Below _ _ _ := hL
              have e109 : ac.eval (.tmp 109) = .int .i64 eB := hP 18 (by kernel_rfl)
              have e105 : ac.eval (.tmp 105) = .bool true := hP 14 (by kernel_rfl)
              exact rop_bin _ _ _ _ _ rfl e109 rfl (guard_int _ _ _ _ _ _ _ w') ((HEB.out w').trans (by rw [zbB])) (wanted_of (j := 14) (b := true) rfl rfl e105) (hK _ _ (le8_refl _) rfl)
            · intro ac w' hF hL hP hU K hK
              have hB : Below _ _ _ := hL
              have e110 : ac.eval (.tmp 110) = .bool false := hP 19 (by kernel_rfl)
              have e105 : ac.eval (.tmp 105) = .bool true := hP 14 (by kernel_rfl)
              exact rop_move _ rfl e110 (wanted_of (j := 14) (b := true) rfl rfl e105) (hK _ _ (le8_refl _) rfl)
            · intro ac w' hF hL hP hU K hK
              have hB : Below _ _ _ := hL
              have e111 : ac.eval (.tmp 111) = .bool false := hP 20 (by kernel_rfl)
              exact rop_offG (j := 20) (b := true) rfl rfl e111 (by decide) (hK _ _ (le8_refl _) rfl)
            · intro ac w' hF hL hP hU K hK
              have hB : Below _ _ _ := hL
              have e111 : ac.eval (.tmp 111) = .bool false := hP 20 (by kernel_rfl)
              exact rop_offG (j := 20) (b := true) rfl rfl e111 (by decide) (hK _ _ (le8_refl _) rfl)
            · intro ac w' hF hL hP hU K hK
              have hB : Below _ _ _ := hL
              have e111 : ac.eval (.tmp 111) = .bool false := hP 20 (by kernel_rfl)
              exact rop_offG (j := 20) (b := true) rfl rfl e111 (by decide) (hK _ _ (le8_refl _) rfl)
            · intro ac w' hF hL hP hU K hK
              have hB : Below _ _ _ := hL
              have e111 : ac.eval (.tmp 111) = .bool false := hP 20 (by kernel_rfl)
              have e105 : ac.eval (.tmp 105) = .bool true := hP 14 (by kernel_rfl)
              exact rop_pick _ _ _ rfl false e111 (by rfl) (wanted_of (j := 14) (b := true) rfl rfl e105) (hK _ _ (le8_refl _) rfl)
            · intro ac w' hF hL hP hU K hK
              have hB : Below _ _ _ := hL
              have e108 : ac.eval (.tmp 108) = .bool false := hP 17 (by kernel_rfl)
              have e115 : ac.eval (.tmp 115) = .bool false := hP 24 (by kernel_rfl)
              have e105 : ac.eval (.tmp 105) = .bool true := hP 14 (by kernel_rfl)
              exact rop_bin _ _ _ _ _ rfl e108 e115 (guard_boolS _ _ _ _ _ _ w') (eql_bool_same _ w') (wanted_of (j := 14) (b := true) rfl rfl e105) (hK _ _ (le8_refl _) rfl)
            · intro ac w' hF hL hP hU K hK
              have hB : Below _ _ _ := hL
              have e105 : ac.eval (.tmp 105) = .bool true := hP 14 (by kernel_rfl)
              have e116 : ac.eval (.tmp 116) = .bool true := hP 25 (by kernel_rfl)
              exact rop_pick _ _ _ rfl true e105 (by simpa using e116) (wanted_none rfl) (hK _ _ (le8_refl _) rfl)
            · intro ac w' hF hL hP hU K hK
              have hB : Below _ _ _ := hL
              have e117 : ac.eval (.tmp 117) = .bool true := hP 26 (by kernel_rfl)
              exact rop_assign _ rfl e117 (wanted_none rfl) (hK _ _ (le8_refl _) rfl)
            · intro ac w' hF hB hT
              have e6 : ac.eval (.tmp 6) = .bool true := hT 27 (by decide)
              rw [hF.setsG [91, 92, 93, 94, 95, 96, 97, 98, 99, 100, 101, 102, 103, 104, 105, 106, 107, 108, 109, 110, 111, 112, 113, 114, 115, 116, 117, 6] (by kernel_rfl)]
              simp only [List.foldl_cons, List.foldl_nil, List.setIfInBounds_toArray, List.set_cons_succ, List.set_cons_zero, e6]
              generalize ac.eval (.tmp 91) = u91
              generalize ac.eval (.tmp 92) = u92
              generalize ac.eval (.tmp 93) = u93
              generalize ac.eval (.tmp 94) = u94
              generalize ac.eval (.tmp 95) = u95
              generalize ac.eval (.tmp 96) = u96
              generalize ac.eval (.tmp 97) = u97
              generalize ac.eval (.tmp 98) = u98
              generalize ac.eval (.tmp 99) = u99
              generalize ac.eval (.tmp 100) = u100
              generalize ac.eval (.tmp 101) = u101
              generalize ac.eval (.tmp 102) = u102
              generalize ac.eval (.tmp 103) = u103
              generalize ac.eval (.tmp 104) = u104
              generalize ac.eval (.tmp 105) = u105
              generalize ac.eval (.tmp 106) = u106
              generalize ac.eval (.tmp 107) = u107
              generalize ac.eval (.tmp 108) = u108
              generalize ac.eval (.tmp 109) = u109
              generalize ac.eval (.tmp 110) = u110
              generalize ac.eval (.tmp 111) = u111
              generalize ac.eval (.tmp 112) = u112
              generalize ac.eval (.tmp 113) = u113
              generalize ac.eval (.tmp 114) = u114
              generalize ac.eval (.tmp 115) = u115
              generalize ac.eval (.tmp 116) = u116
              generalize ac.eval (.tmp 117) = u117
              clear e6 hT hF ac
              have hbw := below_step hb (Nat.le_refl _) hB
              clear hB
              go_wp2
              go_ret
              exact ⟨rfl, hbw⟩
        · replace zbA : bA = false := by simpa using zbA
          by_cases zbB : bB = true
          · skip
            have HRG' : Hid (∀ u, KT u → Calls Tryd.prog 29 #[.string S, .agg (hdCs GG).toArray] u fun e w' => e = .returned (.bool false) ∧ Below u.heap.size u w') := Lib.hid fun u hu => by
              have h := HRG.out u hu
              rw [zbA] at h
              exact h
            have HRU' : Hid (∀ u, KT u → Calls Tryd.prog 31 #[.string S, .agg (stCs GU).toArray] u fun e w' => e = .returned (.bool (decide (GU = GB))) ∧ Below u.heap.size u w') := Lib.hid fun u hu => by
              have h := HRU.out u hu
              rw [zbB] at h
              exact h
            try simp only [Act.put]
            refine wp_region_tab0 [RT.is (.bool true), RT.is (.bool true), RT.is (.string S), RT.is (.agg (hdCs GG).toArray), RT.is (.bool false), RT.is (.int .i64 eA), RT.is (.bool false), RT.is (.bool false), RT.is undef, RT.is undef, RT.is undef, RT.is (.bool false), RT.is (.bool true), RT.is (.bool true), RT.is (.bool true), RT.is (.string S), RT.is (.agg (stCs GU).toArray), RT.is (.bool (decide (GU = GB))), RT.is (.int .i64 eB), RT.is (.bool true), RT.is (.bool true), RT.is (.agg (stCs GU).toArray), RT.is (.agg (stCs GB).toArray), RT.is (.bool (decide (GU = GB))), RT.is (.bool (decide (GU = GB))), RT.is (.bool true), RT.is (.bool true), RT.is (.bool true)] (by kernel_rfl) (by kernel_rfl) (by kernel_rfl) ⟨?_, ?_, ?_, ?_, ?_, ?_, ?_, ?_, ?_, ?_, ?_, ?_, ?_, ?_, ?_, ?_, ?_, ?_, ?_, ?_, ?_, ?_, ?_, ?_, ?_, ?_, ?_, ?_, trivial⟩ ?_
            · intro ac w' hF hL hP hU K hK
              have hB : Below _ _ _ := hL
              have e7 : ac.eval (.tmp 7) = .bool true := hF.at 7 (by kernel_rfl)
              exact rop_move _ rfl e7 (wanted_none rfl) (hK _ _ (le8_refl _) rfl)
            · intro ac w' hF hL hP hU K hK
              have hB : Below _ _ _ := hL
              have e91 : ac.eval (.tmp 91) = .bool true := hP 0 (by kernel_rfl)
              exact rop_move _ rfl e91 (wanted_none rfl) (hK _ _ (le8_refl _) rfl)
            · intro ac w' hF hL hP hU K hK
              have hB : Below _ _ _ := hL
              have e0 : ac.eval (.tmp 0) = .string S := hF.at 0 (by kernel_rfl)
              have e92 : ac.eval (.tmp 92) = .bool true := hP 1 (by kernel_rfl)
              exact rop_move _ rfl e0 (wanted_of (j := 1) (b := true) rfl rfl e92) (hK _ _ (le8_refl _) rfl)
            · intro ac w' hF hL hP hU K hK
              have hB : Below _ _ _ := hL
              have e14 : ac.eval (.tmp 14) = .pointer (some ⟨xHXG, 0, none⟩) := hF.at 14 (by kernel_rfl)
              have e92 : ac.eval (.tmp 92) = .bool true := hP 1 (by kernel_rfl)
              exact rop_ld _ _ rfl e14 (load_hdAt (below_range' hB (Blk.lt HXG) (Blk.all HXG)) OKG.out.root OKG.out.mac) (wanted_of (j := 1) (b := true) rfl rfl e92) (hK _ _ (le8_refl _) rfl)
            · intro ac w' hF hL hP hU K hK
              have hB : Below _ _ _ := hL
              have e93 : ac.eval (.tmp 93) = .string S := hP 2 (by kernel_rfl)
              have e94 : ac.eval (.tmp 94) = .agg (hdCs GG).toArray := hP 3 (by kernel_rfl)
              have e92 : ac.eval (.tmp 92) = .bool true := hP 1 (by kernel_rfl)
              refine rop_call 29 _ _ rfl #[.string S, .agg (hdCs GG).toArray] (by simp [e93, e94]) (by kernel_rfl) (wanted_of (j := 1) (b := true) rfl rfl e92) ?_
              refine (HRG'.out w' (HKR.out.old hB)).mono ?_
              rintro e w2 ⟨rfl, hb⟩
              exact ⟨_, rfl, hK _ _ hb rfl⟩
            · intro ac w' hF hL hP hU K hK
              have hB : Below _ _ _ := hL
              have e11 : ac.eval (.tmp 11) = .int .i64 eA := hF.at 11 (by kernel_rfl)
              have e92 : ac.eval (.tmp 92) = .bool true := hP 1 (by kernel_rfl)
              exact rop_move _ rfl e11 (wanted_of (j := 1) (b := true) rfl rfl e92) (hK _ _ (le8_refl _) rfl)
            · intro ac w' hF hL hP hU K hK
              have hB : Below _ _ _ := hL
              have e96 : ac.eval (.tmp 96) = .int .i64 eA := hP 5 (by kernel_rfl)
              have e92 : ac.eval (.tmp 92) = .bool true := hP 1 (by kernel_rfl)
              exact rop_bin _ _ _ _ _ rfl e96 rfl (guard_int _ _ _ _ _ _ _ w') ((HEA.out w').trans (by rw [zbA])) (wanted_of (j := 1) (b := true) rfl rfl e92) (hK _ _ (le8_refl _) rfl)
            · intro ac w' hF hL hP hU K hK
              have hB : Below _ _ _ := hL
              have e97 : ac.eval (.tmp 97) = .bool false := hP 6 (by kernel_rfl)
              have e92 : ac.eval (.tmp 92) = .bool true := hP 1 (by kernel_rfl)
              exact rop_move _ rfl e97 (wanted_of (j := 1) (b := true) rfl rfl e92) (hK _ _ (le8_refl _) rfl)
            · intro ac w' hF hL hP hU K hK
              have hB : Below _ _ _ := hL
              have e98 : ac.eval (.tmp 98) = .bool false := hP 7 (by kernel_rfl)
              exact rop_offG (j := 7) (b := true) rfl rfl e98 (by decide) (hK _ _ (le8_refl _) rfl)
            · intro ac w' hF hL hP hU K hK
              have hB : Below _ _ _ := hL
              have e98 : ac.eval (.tmp 98) = .bool false := hP 7 (by kernel_rfl)
              exact rop_offG (j := 7) (b := true) rfl rfl e98 (by decide) (hK _ _ (le8_refl _) rfl)
            · intro ac w' hF hL hP hU K hK
              have hB : Below _ _ _ := hL
              have e98 : ac.eval (.tmp 98) = .bool false := hP 7 (by kernel_rfl)
              exact rop_offG (j := 7) (b := true) rfl rfl e98 (by decide) (hK _ _ (le8_refl _) rfl)
            · intro ac w' hF hL hP hU K hK
              have hB : Below _ _ _ := hL
              have e98 : ac.eval (.tmp 98) = .bool false := hP 7 (by kernel_rfl)
              have e92 : ac.eval (.tmp 92) = .bool true := hP 1 (by kernel_rfl)
              exact rop_pick _ _ _ rfl false e98 (by rfl) (wanted_of (j := 1) (b := true) rfl rfl e92) (hK _ _ (le8_refl _) rfl)
            · intro ac w' hF hL hP hU K hK
              have hB : Below _ _ _ := hL
              have e95 : ac.eval (.tmp 95) = .bool false := hP 4 (by kernel_rfl)
              have e102 : ac.eval (.tmp 102) = .bool false := hP 11 (by kernel_rfl)
              have e92 : ac.eval (.tmp 92) = .bool true := hP 1 (by kernel_rfl)
              exact rop_bin _ _ _ _ _ rfl e95 e102 (guard_boolS _ _ _ _ _ _ w') (eql_bool_same _ w') (wanted_of (j := 1) (b := true) rfl rfl e92) (hK _ _ (le8_refl _) rfl)
            · intro ac w' hF hL hP hU K hK
              have hB : Below _ _ _ := hL
              have e92 : ac.eval (.tmp 92) = .bool true := hP 1 (by kernel_rfl)
              have e103 : ac.eval (.tmp 103) = .bool true := hP 12 (by kernel_rfl)
              exact rop_pick _ _ _ rfl true e92 (by simpa using e103) (wanted_none rfl) (hK _ _ (le8_refl _) rfl)
            · intro ac w' hF hL hP hU K hK
              have hB : Below _ _ _ := hL
              have e104 : ac.eval (.tmp 104) = .bool true := hP 13 (by kernel_rfl)
              exact rop_move _ rfl e104 (wanted_none rfl) (hK _ _ (le8_refl _) rfl)
            · intro ac w' hF hL hP hU K hK
              have hB : Below _ _ _ := hL
              have e0 : ac.eval (.tmp 0) = .string S := hF.at 0 (by kernel_rfl)
              have e105 : ac.eval (.tmp 105) = .bool true := hP 14 (by kernel_rfl)
              exact rop_move _ rfl e0 (wanted_of (j := 14) (b := true) rfl rfl e105) (hK _ _ (le8_refl _) rfl)
            · intro ac w' hF hL hP hU K hK
              have hB : Below _ _ _ := hL
              have e15 : ac.eval (.tmp 15) = .pointer (some ⟨xHXU, 0, none⟩) := hF.at 15 (by kernel_rfl)
              have e105 : ac.eval (.tmp 105) = .bool true := hP 14 (by kernel_rfl)
              exact rop_ld _ _ rfl e15 (load_stAt (below_range' hB (Blk.lt HXU) (Blk.all HXU)) OKU.out.fz.root OKU.out.mac) (wanted_of (j := 14) (b := true) rfl rfl e105) (hK _ _ (le8_refl _) rfl)
            · intro ac w' hF hL hP hU K hK
              have hB : Below _ _ _ := hL
              have e106 : ac.eval (.tmp 106) = .string S := hP 15 (by kernel_rfl)
              have e107 : ac.eval (.tmp 107) = .agg (stCs GU).toArray := hP 16 (by kernel_rfl)
              have e105 : ac.eval (.tmp 105) = .bool true := hP 14 (by kernel_rfl)
              refine rop_call 31 _ _ rfl #[.string S, .agg (stCs GU).toArray] (by simp [e106, e107]) (by kernel_rfl) (wanted_of (j := 14) (b := true) rfl rfl e105) ?_
              refine (HRU'.out w' (HKR.out.old hB)).mono ?_
              rintro e w2 ⟨rfl, hb⟩
              exact ⟨_, rfl, hK _ _ hb rfl⟩
            · intro ac w' hF hL hP hU K hK
              have hB : Below _ _ _ := hL
              have e13 : ac.eval (.tmp 13) = .int .i64 eB := hF.at 13 (by kernel_rfl)
              have e105 : ac.eval (.tmp 105) = .bool true := hP 14 (by kernel_rfl)
              exact rop_move _ rfl e13 (wanted_of (j := 14) (b := true) rfl rfl e105) (hK _ _ (le8_refl _) rfl)
            · intro ac w' hF hL hP hU K hK
              have hB : Below _ _ _ := hL
              have e109 : ac.eval (.tmp 109) = .int .i64 eB := hP 18 (by kernel_rfl)
              have e105 : ac.eval (.tmp 105) = .bool true := hP 14 (by kernel_rfl)
              exact rop_bin _ _ _ _ _ rfl e109 rfl (guard_int _ _ _ _ _ _ _ w') ((HEB.out w').trans (by rw [zbB])) (wanted_of (j := 14) (b := true) rfl rfl e105) (hK _ _ (le8_refl _) rfl)
            · intro ac w' hF hL hP hU K hK
              have hB : Below _ _ _ := hL
              have e110 : ac.eval (.tmp 110) = .bool true := hP 19 (by kernel_rfl)
              have e105 : ac.eval (.tmp 105) = .bool true := hP 14 (by kernel_rfl)
              exact rop_move _ rfl e110 (wanted_of (j := 14) (b := true) rfl rfl e105) (hK _ _ (le8_refl _) rfl)
            · intro ac w' hF hL hP hU K hK
              have hB : Below _ _ _ := hL
              have e15 : ac.eval (.tmp 15) = .pointer (some ⟨xHXU, 0, none⟩) := hF.at 15 (by kernel_rfl)
              have e111 : ac.eval (.tmp 111) = .bool true := hP 20 (by kernel_rfl)
              exact rop_ld _ _ rfl e15 (load_stAt (below_range' hB (Blk.lt HXU) (Blk.all HXU)) OKU.out.fz.root OKU.out.mac) (wanted_of (j := 20) (b := true) rfl rfl e111) (hK _ _ (le8_refl _) rfl)
            · intro ac w' hF hL hP hU K hK
              have hB : Below _ _ _ := hL
              have e9 : ac.eval (.tmp 9) = .pointer (some ⟨xHXB, 0, none⟩) := hF.at 9 (by kernel_rfl)
              have e111 : ac.eval (.tmp 111) = .bool true := hP 20 (by kernel_rfl)
              exact rop_ld _ _ rfl e9 (load_stAt (below_range' hB (Blk.lt HXB) (Blk.all HXB)) OKB.out.fz.root OKB.out.mac) (wanted_of (j := 20) (b := true) rfl rfl e111) (hK _ _ (le8_refl _) rfl)
            · intro ac w' hF hL hP hU K hK
              have hB : Below _ _ _ := hL
              have e112 : ac.eval (.tmp 112) = .agg (stCs GU).toArray := hP 21 (by kernel_rfl)
              have e113 : ac.eval (.tmp 113) = .agg (stCs GB).toArray := hP 22 (by kernel_rfl)
              have e111 : ac.eval (.tmp 111) = .bool true := hP 20 (by kernel_rfl)
              exact rop_bin _ _ _ _ _ rfl e112 e113 (guard_st .eql _ _ _ _ w') (eql_st GU GB OKU.out OKB.out w') (wanted_of (j := 20) (b := true) rfl rfl e111) (hK _ _ (le8_refl _) rfl)
            · intro ac w' hF hL hP hU K hK
              have hB : Below _ _ _ := hL
              have e111 : ac.eval (.tmp 111) = .bool true := hP 20 (by kernel_rfl)
              have e114 : ac.eval (.tmp 114) = .bool (decide (GU = GB)) := hP 23 (by kernel_rfl)
              have e105 : ac.eval (.tmp 105) = .bool true := hP 14 (by kernel_rfl)
              exact rop_pick _ _ _ rfl true e111 (by simpa using e114) (wanted_of (j := 14) (b := true) rfl rfl e105) (hK _ _ (le8_refl _) rfl)
            · intro ac w' hF hL hP hU K hK
              have hB : Below _ _ _ := hL
              have e108 : ac.eval (.tmp 108) = .bool (decide (GU = GB)) := hP 17 (by kernel_rfl)
              have e115 : ac.eval (.tmp 115) = .bool (decide (GU = GB)) := hP 24 (by kernel_rfl)
              have e105 : ac.eval (.tmp 105) = .bool true := hP 14 (by kernel_rfl)
              exact rop_bin _ _ _ _ _ rfl e108 e115 (guard_boolS _ _ _ _ _ _ w') (eql_bool_same _ w') (wanted_of (j := 14) (b := true) rfl rfl e105) (hK _ _ (le8_refl _) rfl)
            · intro ac w' hF hL hP hU K hK
              have hB : Below _ _ _ := hL
              have e105 : ac.eval (.tmp 105) = .bool true := hP 14 (by kernel_rfl)
              have e116 : ac.eval (.tmp 116) = .bool true := hP 25 (by kernel_rfl)
              exact rop_pick _ _ _ rfl true e105 (by simpa using e116) (wanted_none rfl) (hK _ _ (le8_refl _) rfl)
            · intro ac w' hF hL hP hU K hK
              have hB : Below _ _ _ := hL
              have e117 : ac.eval (.tmp 117) = .bool true := hP 26 (by kernel_rfl)
              exact rop_assign _ rfl e117 (wanted_none rfl) (hK _ _ (le8_refl _) rfl)
            · intro ac w' hF hB hT
              have e6 : ac.eval (.tmp 6) = .bool true := hT 27 (by decide)
              rw [hF.setsG [91, 92, 93, 94, 95, 96, 97, 98, 99, 100, 101, 102, 103, 104, 105, 106, 107, 108, 109, 110, 111, 112, 113, 114, 115, 116, 117, 6] (by kernel_rfl)]
              simp only [List.foldl_cons, List.foldl_nil, List.setIfInBounds_toArray, List.set_cons_succ, List.set_cons_zero, e6]
              generalize ac.eval (.tmp 91) = u91
              generalize ac.eval (.tmp 92) = u92
              generalize ac.eval (.tmp 93) = u93
              generalize ac.eval (.tmp 94) = u94
              generalize ac.eval (.tmp 95) = u95
              generalize ac.eval (.tmp 96) = u96
              generalize ac.eval (.tmp 97) = u97
              generalize ac.eval (.tmp 98) = u98
              generalize ac.eval (.tmp 99) = u99
              generalize ac.eval (.tmp 100) = u100
              generalize ac.eval (.tmp 101) = u101
              generalize ac.eval (.tmp 102) = u102
              generalize ac.eval (.tmp 103) = u103
              generalize ac.eval (.tmp 104) = u104
              generalize ac.eval (.tmp 105) = u105
              generalize ac.eval (.tmp 106) = u106
              generalize ac.eval (.tmp 107) = u107
              generalize ac.eval (.tmp 108) = u108
              generalize ac.eval (.tmp 109) = u109
              generalize ac.eval (.tmp 110) = u110
              generalize ac.eval (.tmp 111) = u111
              generalize ac.eval (.tmp 112) = u112
              generalize ac.eval (.tmp 113) = u113
              generalize ac.eval (.tmp 114) = u114
              generalize ac.eval (.tmp 115) = u115
              generalize ac.eval (.tmp 116) = u116
              generalize ac.eval (.tmp 117) = u117
              clear e6 hT hF ac
              have hbw := below_step hb (Nat.le_refl _) hB
              clear hB
              go_wp2
              go_ret
              exact ⟨rfl, hbw⟩
          · replace zbB : bB = false := by simpa using zbB
            have HRG' : Hid (∀ u, KT u → Calls Tryd.prog 29 #[.string S, .agg (hdCs GG).toArray] u fun e w' => e = .returned (.bool false) ∧ Below u.heap.size u w') := Lib.hid fun u hu => by
              have h := HRG.out u hu
              rw [zbA] at h
              exact h
            have HRU' : Hid (∀ u, KT u → Calls Tryd.prog 31 #[.string S, .agg (stCs GU).toArray] u fun e w' => e = .returned (.bool false) ∧ Below u.heap.size u w') := Lib.hid fun u hu => by
              have h := HRU.out u hu
              rw [zbB] at h
              exact h
            try simp only [Act.put]
            refine wp_region_tab0 [RT.is (.bool true), RT.is (.bool true), RT.is (.string S), RT.is (.agg (hdCs GG).toArray), RT.is (.bool false), RT.is (.int .i64 eA), RT.is (.bool false), RT.is (.bool false), RT.is undef, RT.is undef, RT.is undef, RT.is (.bool false), RT.is (.bool true), RT.is (.bool true), RT.is (.bool true), RT.is (.string S), RT.is (.agg (stCs GU).toArray), RT.is (.bool false), RT.is (.int .i64 eB), RT.is (.bool false), RT.is (.bool false), RT.is undef, RT.is undef, RT.is undef, RT.is (.bool false), RT.is (.bool true), RT.is (.bool true), RT.is (.bool true)] (by kernel_rfl) (by kernel_rfl) (by kernel_rfl) ⟨?_, ?_, ?_, ?_, ?_, ?_, ?_, ?_, ?_, ?_, ?_, ?_, ?_, ?_, ?_, ?_, ?_, ?_, ?_, ?_, ?_, ?_, ?_, ?_, ?_, ?_, ?_, ?_, trivial⟩ ?_
            · intro ac w' hF hL hP hU K hK
              have hB : Below _ _ _ := hL
              have e7 : ac.eval (.tmp 7) = .bool true := hF.at 7 (by kernel_rfl)
              exact rop_move _ rfl e7 (wanted_none rfl) (hK _ _ (le8_refl _) rfl)
            · intro ac w' hF hL hP hU K hK
              have hB : Below _ _ _ := hL
              have e91 : ac.eval (.tmp 91) = .bool true := hP 0 (by kernel_rfl)
              exact rop_move _ rfl e91 (wanted_none rfl) (hK _ _ (le8_refl _) rfl)
            · intro ac w' hF hL hP hU K hK
              have hB : Below _ _ _ := hL
              have e0 : ac.eval (.tmp 0) = .string S := hF.at 0 (by kernel_rfl)
              have e92 : ac.eval (.tmp 92) = .bool true := hP 1 (by kernel_rfl)
              exact rop_move _ rfl e0 (wanted_of (j := 1) (b := true) rfl rfl e92) (hK _ _ (le8_refl _) rfl)
            · intro ac w' hF hL hP hU K hK
              have hB : Below _ _ _ := hL
              have e14 : ac.eval (.tmp 14) = .pointer (some ⟨xHXG, 0, none⟩) := hF.at 14 (by kernel_rfl)
              have e92 : ac.eval (.tmp 92) = .bool true := hP 1 (by kernel_rfl)
              exact rop_ld _ _ rfl e14 (load_hdAt (below_range' hB (Blk.lt HXG) (Blk.all HXG)) OKG.out.root OKG.out.mac) (wanted_of (j := 1) (b := true) rfl rfl e92) (hK _ _ (le8_refl _) rfl)
            · intro ac w' hF hL hP hU K hK
              have hB : Below _ _ _ := hL
              have e93 : ac.eval (.tmp 93) = .string S := hP 2 (by kernel_rfl)
              have e94 : ac.eval (.tmp 94) = .agg (hdCs GG).toArray := hP 3 (by kernel_rfl)
              have e92 : ac.eval (.tmp 92) = .bool true := hP 1 (by kernel_rfl)
              refine rop_call 29 _ _ rfl #[.string S, .agg (hdCs GG).toArray] (by simp [e93, e94]) (by kernel_rfl) (wanted_of (j := 1) (b := true) rfl rfl e92) ?_
              refine (HRG'.out w' (HKR.out.old hB)).mono ?_
              rintro e w2 ⟨rfl, hb⟩
              exact ⟨_, rfl, hK _ _ hb rfl⟩
            · intro ac w' hF hL hP hU K hK
              have hB : Below _ _ _ := hL
              have e11 : ac.eval (.tmp 11) = .int .i64 eA := hF.at 11 (by kernel_rfl)
              have e92 : ac.eval (.tmp 92) = .bool true := hP 1 (by kernel_rfl)
              exact rop_move _ rfl e11 (wanted_of (j := 1) (b := true) rfl rfl e92) (hK _ _ (le8_refl _) rfl)
            · intro ac w' hF hL hP hU K hK
              have hB : Below _ _ _ := hL
              have e96 : ac.eval (.tmp 96) = .int .i64 eA := hP 5 (by kernel_rfl)
              have e92 : ac.eval (.tmp 92) = .bool true := hP 1 (by kernel_rfl)
              exact rop_bin _ _ _ _ _ rfl e96 rfl (guard_int _ _ _ _ _ _ _ w') ((HEA.out w').trans (by rw [zbA])) (wanted_of (j := 1) (b := true) rfl rfl e92) (hK _ _ (le8_refl _) rfl)
            · intro ac w' hF hL hP hU K hK
              have hB : Below _ _ _ := hL
              have e97 : ac.eval (.tmp 97) = .bool false := hP 6 (by kernel_rfl)
              have e92 : ac.eval (.tmp 92) = .bool true := hP 1 (by kernel_rfl)
              exact rop_move _ rfl e97 (wanted_of (j := 1) (b := true) rfl rfl e92) (hK _ _ (le8_refl _) rfl)
            · intro ac w' hF hL hP hU K hK
              have hB : Below _ _ _ := hL
              have e98 : ac.eval (.tmp 98) = .bool false := hP 7 (by kernel_rfl)
              exact rop_offG (j := 7) (b := true) rfl rfl e98 (by decide) (hK _ _ (le8_refl _) rfl)
            · intro ac w' hF hL hP hU K hK
              have hB : Below _ _ _ := hL
              have e98 : ac.eval (.tmp 98) = .bool false := hP 7 (by kernel_rfl)
              exact rop_offG (j := 7) (b := true) rfl rfl e98 (by decide) (hK _ _ (le8_refl _) rfl)
            · intro ac w' hF hL hP hU K hK
              have hB : Below _ _ _ := hL
              have e98 : ac.eval (.tmp 98) = .bool false := hP 7 (by kernel_rfl)
              exact rop_offG (j := 7) (b := true) rfl rfl e98 (by decide) (hK _ _ (le8_refl _) rfl)
            · intro ac w' hF hL hP hU K hK
              have hB : Below _ _ _ := hL
              have e98 : ac.eval (.tmp 98) = .bool false := hP 7 (by kernel_rfl)
              have e92 : ac.eval (.tmp 92) = .bool true := hP 1 (by kernel_rfl)
              exact rop_pick _ _ _ rfl false e98 (by rfl) (wanted_of (j := 1) (b := true) rfl rfl e92) (hK _ _ (le8_refl _) rfl)
            · intro ac w' hF hL hP hU K hK
              have hB : Below _ _ _ := hL
              have e95 : ac.eval (.tmp 95) = .bool false := hP 4 (by kernel_rfl)
              have e102 : ac.eval (.tmp 102) = .bool false := hP 11 (by kernel_rfl)
              have e92 : ac.eval (.tmp 92) = .bool true := hP 1 (by kernel_rfl)
              exact rop_bin _ _ _ _ _ rfl e95 e102 (guard_boolS _ _ _ _ _ _ w') (eql_bool_same _ w') (wanted_of (j := 1) (b := true) rfl rfl e92) (hK _ _ (le8_refl _) rfl)
            · intro ac w' hF hL hP hU K hK
              have hB : Below _ _ _ := hL
              have e92 : ac.eval (.tmp 92) = .bool true := hP 1 (by kernel_rfl)
              have e103 : ac.eval (.tmp 103) = .bool true := hP 12 (by kernel_rfl)
              exact rop_pick _ _ _ rfl true e92 (by simpa using e103) (wanted_none rfl) (hK _ _ (le8_refl _) rfl)
            · intro ac w' hF hL hP hU K hK
              have hB : Below _ _ _ := hL
              have e104 : ac.eval (.tmp 104) = .bool true := hP 13 (by kernel_rfl)
              exact rop_move _ rfl e104 (wanted_none rfl) (hK _ _ (le8_refl _) rfl)
            · intro ac w' hF hL hP hU K hK
              have hB : Below _ _ _ := hL
              have e0 : ac.eval (.tmp 0) = .string S := hF.at 0 (by kernel_rfl)
              have e105 : ac.eval (.tmp 105) = .bool true := hP 14 (by kernel_rfl)
              exact rop_move _ rfl e0 (wanted_of (j := 14) (b := true) rfl rfl e105) (hK _ _ (le8_refl _) rfl)
            · intro ac w' hF hL hP hU K hK
              have hB : Below _ _ _ := hL
              have e15 : ac.eval (.tmp 15) = .pointer (some ⟨xHXU, 0, none⟩) := hF.at 15 (by kernel_rfl)
              have e105 : ac.eval (.tmp 105) = .bool true := hP 14 (by kernel_rfl)
              exact rop_ld _ _ rfl e15 (load_stAt (below_range' hB (Blk.lt HXU) (Blk.all HXU)) OKU.out.fz.root OKU.out.mac) (wanted_of (j := 14) (b := true) rfl rfl e105) (hK _ _ (le8_refl _) rfl)
            · intro ac w' hF hL hP hU K hK
              have hB : Below _ _ _ := hL
              have e106 : ac.eval (.tmp 106) = .string S := hP 15 (by kernel_rfl)
              have e107 : ac.eval (.tmp 107) = .agg (stCs GU).toArray := hP 16 (by kernel_rfl)
              have e105 : ac.eval (.tmp 105) = .bool true := hP 14 (by kernel_rfl)
              refine rop_call 31 _ _ rfl #[.string S, .agg (stCs GU).toArray] (by simp [e106, e107]) (by kernel_rfl) (wanted_of (j := 14) (b := true) rfl rfl e105) ?_
              refine (HRU'.out w' (HKR.out.old hB)).mono ?_
              rintro e w2 ⟨rfl, hb⟩
              exact ⟨_, rfl, hK _ _ hb rfl⟩
            · intro ac w' hF hL hP hU K hK
              have hB : Below _ _ _ := hL
              have e13 : ac.eval (.tmp 13) = .int .i64 eB := hF.at 13 (by kernel_rfl)
              have e105 : ac.eval (.tmp 105) = .bool true := hP 14 (by kernel_rfl)
              exact rop_move _ rfl e13 (wanted_of (j := 14) (b := true) rfl rfl e105) (hK _ _ (le8_refl _) rfl)
            · intro ac w' hF hL hP hU K hK
              have hB : Below _ _ _ := hL
              have e109 : ac.eval (.tmp 109) = .int .i64 eB := hP 18 (by kernel_rfl)
              have e105 : ac.eval (.tmp 105) = .bool true := hP 14 (by kernel_rfl)
              exact rop_bin _ _ _ _ _ rfl e109 rfl (guard_int _ _ _ _ _ _ _ w') ((HEB.out w').trans (by rw [zbB])) (wanted_of (j := 14) (b := true) rfl rfl e105) (hK _ _ (le8_refl _) rfl)
            · intro ac w' hF hL hP hU K hK
              have hB : Below _ _ _ := hL
              have e110 : ac.eval (.tmp 110) = .bool false := hP 19 (by kernel_rfl)
              have e105 : ac.eval (.tmp 105) = .bool true := hP 14 (by kernel_rfl)
              exact rop_move _ rfl e110 (wanted_of (j := 14) (b := true) rfl rfl e105) (hK _ _ (le8_refl _) rfl)
            · intro ac w' hF hL hP hU K hK
              have hB : Below _ _ _ := hL
              have e111 : ac.eval (.tmp 111) = .bool false := hP 20 (by kernel_rfl)
              exact rop_offG (j := 20) (b := true) rfl rfl e111 (by decide) (hK _ _ (le8_refl _) rfl)
            · intro ac w' hF hL hP hU K hK
              have hB : Below _ _ _ := hL
              have e111 : ac.eval (.tmp 111) = .bool false := hP 20 (by kernel_rfl)
              exact rop_offG (j := 20) (b := true) rfl rfl e111 (by decide) (hK _ _ (le8_refl _) rfl)
            · intro ac w' hF hL hP hU K hK
              have hB : Below _ _ _ := hL
              have e111 : ac.eval (.tmp 111) = .bool false := hP 20 (by kernel_rfl)
              exact rop_offG (j := 20) (b := true) rfl rfl e111 (by decide) (hK _ _ (le8_refl _) rfl)
            · intro ac w' hF hL hP hU K hK
              have hB : Below _ _ _ := hL
              have e111 : ac.eval (.tmp 111) = .bool false := hP 20 (by kernel_rfl)
              have e105 : ac.eval (.tmp 105) = .bool true := hP 14 (by kernel_rfl)
              exact rop_pick _ _ _ rfl false e111 (by rfl) (wanted_of (j := 14) (b := true) rfl rfl e105) (hK _ _ (le8_refl _) rfl)
            · intro ac w' hF hL hP hU K hK
              have hB : Below _ _ _ := hL
              have e108 : ac.eval (.tmp 108) = .bool false := hP 17 (by kernel_rfl)
              have e115 : ac.eval (.tmp 115) = .bool false := hP 24 (by kernel_rfl)
              have e105 : ac.eval (.tmp 105) = .bool true := hP 14 (by kernel_rfl)
              exact rop_bin _ _ _ _ _ rfl e108 e115 (guard_boolS _ _ _ _ _ _ w') (eql_bool_same _ w') (wanted_of (j := 14) (b := true) rfl rfl e105) (hK _ _ (le8_refl _) rfl)
            · intro ac w' hF hL hP hU K hK
              have hB : Below _ _ _ := hL
              have e105 : ac.eval (.tmp 105) = .bool true := hP 14 (by kernel_rfl)
              have e116 : ac.eval (.tmp 116) = .bool true := hP 25 (by kernel_rfl)
              exact rop_pick _ _ _ rfl true e105 (by simpa using e116) (wanted_none rfl) (hK _ _ (le8_refl _) rfl)
            · intro ac w' hF hL hP hU K hK
              have hB : Below _ _ _ := hL
              have e117 : ac.eval (.tmp 117) = .bool true := hP 26 (by kernel_rfl)
              exact rop_assign _ rfl e117 (wanted_none rfl) (hK _ _ (le8_refl _) rfl)
            · intro ac w' hF hB hT
              have e6 : ac.eval (.tmp 6) = .bool true := hT 27 (by decide)
              rw [hF.setsG [91, 92, 93, 94, 95, 96, 97, 98, 99, 100, 101, 102, 103, 104, 105, 106, 107, 108, 109, 110, 111, 112, 113, 114, 115, 116, 117, 6] (by kernel_rfl)]
              simp only [List.foldl_cons, List.foldl_nil, List.setIfInBounds_toArray, List.set_cons_succ, List.set_cons_zero, e6]
              generalize ac.eval (.tmp 91) = u91
              generalize ac.eval (.tmp 92) = u92
              generalize ac.eval (.tmp 93) = u93
              generalize ac.eval (.tmp 94) = u94
              generalize ac.eval (.tmp 95) = u95
              generalize ac.eval (.tmp 96) = u96
              generalize ac.eval (.tmp 97) = u97
              generalize ac.eval (.tmp 98) = u98
              generalize ac.eval (.tmp 99) = u99
              generalize ac.eval (.tmp 100) = u100
              generalize ac.eval (.tmp 101) = u101
              generalize ac.eval (.tmp 102) = u102
              generalize ac.eval (.tmp 103) = u103
              generalize ac.eval (.tmp 104) = u104
              generalize ac.eval (.tmp 105) = u105
              generalize ac.eval (.tmp 106) = u106
              generalize ac.eval (.tmp 107) = u107
              generalize ac.eval (.tmp 108) = u108
              generalize ac.eval (.tmp 109) = u109
              generalize ac.eval (.tmp 110) = u110
              generalize ac.eval (.tmp 111) = u111
              generalize ac.eval (.tmp 112) = u112
              generalize ac.eval (.tmp 113) = u113
              generalize ac.eval (.tmp 114) = u114
              generalize ac.eval (.tmp 115) = u115
              generalize ac.eval (.tmp 116) = u116
              generalize ac.eval (.tmp 117) = u117
              clear e6 hT hF ac
              have hbw := below_step hb (Nat.le_refl _) hB
              clear hB
              go_wp2
              go_ret
              exact ⟨rfl, hbw⟩
set_option maxRecDepth 100000 in
theorem lifted (os : Os) (started : os.Started) (H : Type) (enc : TypeId × Value → H) :
    ReturnsInHanded {} Tryd.checked os 6 .any (fun w args => (Rows.sealRightSpec.pre enc Tryd.prog Tryd.f6 [] false w args ∧ laidMetH Tryd.prog [("scrinium/sha.k", Rows.laid_scrinium_sha_k)] w) ∧ sizedMet enc Tryd.prog Tryd.f6 (OpenSpec.ofChange Rows.sealRightSpec) false w args)
      (Rows.sealRightSpec.post enc Tryd.prog Tryd.f6 false true false false) := by
  refine returnsInHanded_of_change_and (C := Tryd.checked) (X := fun w _ => laidMetH Tryd.prog [("scrinium/sha.k", Rows.laid_scrinium_sha_k)] w) (fun _ _ _ hh h => h.of_heap hh) lawOwn started (by kernel_rfl) Tryd.func6
    (ChangeSpec.witness_shaped (enc := enc) (C := Tryd.checked) (os := os) (X := fun w _ => laidMetH Tryd.prog [("scrinium/sha.k", Rows.laid_scrinium_sha_k)] w) false (World.doorLaid Tryd.prog 400 os) #[.string .empty, .agg (hdCs hd0 ++ stCs st0).toArray, sumV (List.replicate 32 0)] 8 rfl (World.shaped_of_RefB (by kernel_rfl) (by kernel_rfl)) (by kernel_rfl) (by kernel_rfl) (by kernel_rfl) (door_met os _)) ?_
  intro W base args ds gs before hval0 hW _ _ hL _
  have hval : ∀ (j : Nat) t v, Tryd.f6.params[j]? = some t → args[j]? = some v → Value.okWide Tryd.prog W .any base t v := hval0
  have hW' := hW
  obtain ⟨p, q, hA0, hV, rfl, hfz, hnd⟩ := hW
  have hA : DataW.TrodAll enc Tryd.prog W 0 (fun _ => true) true Tryd.f6.params.toList args.toList ds p := hA0
  rw [Tryd.params6] at hA hval
  obtain ⟨v0, vs0, d0, ds0, p0, q0, hargs, rfl, rfl, h0, r0⟩ := trodAll_cons hA
  obtain ⟨v1, vs1, d1, ds1, p1, q1, rfl, rfl, rfl, h1, r1⟩ := trodAll_cons r0
  obtain ⟨v2, vs2, d2, ds2, p2, q2, rfl, rfl, rfl, h2, r2⟩ := trodAll_cons r1
  obtain ⟨rfl, rfl, rfl⟩ := trodAll_nil r2
  obtain rfl : args = #[v0, v1, v2] := by cases args; simp_all
  obtain ⟨rfl, rfl⟩ := trodVars_none hV
  have hKT := KT_of_laid hL
  obtain ⟨s0, rfl, rfl, rfl, w0⟩ := Go.ChangeMaps.open_string Tryd.underlying9 (hval 0 9 v0 rfl rfl) h0
  obtain ⟨f1, t1, rfl, w1, u1⟩ := both_arg (hval 1 52 v1 rfl rfl) h1
  obtain ⟨x2, rfl, w2⟩ := open_sum (hval 2 23 v2 rfl rfl) h2
  clear hA0 hval0
  refine (walk (w := W) hKT s0 w0 f1 w1 t1 u1 x2 w2).mono fun e W' ⟨he, bel⟩ => ?_
  subst he
  exact ⟨_, rfl, law_post rfl rfl (by kernel_rfl) hW' rfl bel⟩

theorem row_holds : Rows.SealRightSaid :=
  OpenClaim.holds_of_wide 6 Tryd.f6 rfl rfl rfl rfl rfl rfl rfl ⟨rfl, rfl, rfl, rfl, rfl⟩ rfl rfl rfl rfl rfl (by kernel_rfl) Tryd.func6 (by kernel_rfl)
    (of_decide_eq_true (by kernel_rfl)) (by unfold Func.isWrapper; first | (rw [if_pos (by decide +kernel)]; kernel_rfl) | (rw [if_neg (by decide +kernel)]; exact ⟨rfl, rfl⟩))
    (fun os started H enc _ => lifted os started H enc)

theorem holds : Rows.SealRightCardSaid :=
  Claim7.holds_tied_plain_at .later [] [.data] true Rows.sealRightCard.stood.harness false
    row_holds (fun _ h => by cases h) (by kernel_rfl) (fun _ h => by cases h) sealRight_row_tie rfl ⟨rfl, rfl⟩ (by kernel_rfl) rfl
    (fun f fn hf hfn => by
      obtain rfl : f = 6 := Option.some.inj ((show Tryd.prog.funcNamed "scrinium/scriniumlaw16.SealRight" = some 6 by kernel_rfl).symm.trans hf) |>.symm
      obtain rfl : fn = Tryd.f6 := (Option.some.inj (Tryd.func6.symm.trans hfn)).symm
      exact ⟨by kernel_rfl, fun j t ht => by
        rw [Tryd.params6] at ht
        have hm : t ∈ [9, 52, 23] := by simpa using Array.mem_of_getElem? ht
        have hall : ([9, 52, 23].all fun u => !Tryd.prog.wantsStandIn u) = true := by kernel_rfl
        exact (show Tryd.prog.wantsStandIn t = false by simpa using List.all_eq_true.1 hall t hm)⟩)
    (by kernel_rfl)
end Go.Proofs.YtlcljjapeigaeaaDoor.sealRight

theorem Go.Proofs.YtlcljjapeigaeaaDoor.sealRight_holds : Go.Proofs.YtlcljjapeigaeaaDoor.Rows.SealRightCardSaid := Go.Proofs.YtlcljjapeigaeaaDoor.sealRight.holds
#print axioms Go.Proofs.YtlcljjapeigaeaaDoor.sealRight_holds
