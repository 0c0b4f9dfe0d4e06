/-
  Hashes, and states, are compared as arrays.
-/
import Derived.Test.YtcecncbhfcoilaaDoorShaBase
import Derived.DeepKeys
import Derived.Laws.StructEq
namespace Go.Proofs.YtcecncbhfcoilaaDoor
open Go.RowKit

theorem mapM_of {α β : Type} {f : α → Option β} {g : α → β} : ∀ l : List α, (∀ x ∈ l, f x = some (g x)) → l.mapM f = some (l.map g)
  | [], _ => rfl
  | x :: l, h => by
    rw [List.mapM_cons, h x List.mem_cons_self, mapM_of l fun y hy => h y (List.mem_cons_of_mem _ hy)]
    rfl
theorem range_getD {α : Type} (l : List α) (d : α) : (List.range l.length).map (fun i => l.getD i d) = l := by
  apply List.ext_getElem?
  intro i
  by_cases hi : i < l.length
  · simp [hi]
  · rw [List.getElem?_eq_none (by simp; omega), List.getElem?_eq_none (by omega)]
theorem keyLits_ints {P : Program} {t e : TypeId} {n : Nat} {k : IntKind} (ht : P.underlying t = some (.array n e)) (he : P.underlying e = some (.int k)) (hce : P.cellsOf e = 1) (hct : P.cellsOf t = n) (l : List Int) (hl : l.length = n) (hw : ∀ z ∈ l, (Lit.int k z).wf = true) :
    P.keyLits 2 t (l.map (Value.int k)) = some (l.map (Lit.int k)) := by
  subst hl
  unfold Program.keyLits
  simp only [ht, hct, hce, List.length_map, if_true, Nat.mul_one]
  rw [mapM_of (g := fun i => [Lit.int k (l.getD i 0)])]
  · have e1 : ((List.range l.length).map fun i => [Lit.int k (l.getD i 0)]).flatten = ((List.range l.length).map fun i => l.getD i 0).map (Lit.int k) := by
      rw [List.map_map]
      induction (List.range l.length) with
      | nil => rfl
      | cons x r ih => simp only [List.map_cons, List.flatten_cons, ih]; rfl
    simp only [Option.map_some, e1, range_getD]
  · intro i hi
    have hi' : i < l.length := List.mem_range.1 hi
    have ed : ((l.map (Value.int k)).drop i).take 1 = [Value.int k (l.getD i 0)] := by
      rw [List.drop_eq_getElem_cons (by simpa using hi')]
      simp [hi']
    rw [ed]
    unfold Program.keyLits
    have hz : (Lit.int k (l.getD i 0)).wf = true := hw _ (by rw [List.getD_eq_getElem?_getD, List.getElem?_eq_getElem hi']; exact List.getElem_mem hi')
    simp only [he]
    rw [if_pos ⟨trivial, hz⟩]
theorem map_int_inj {k : IntKind} {a b : List Int} (h : a.map (Lit.int k) = b.map (Lit.int k)) : a = b :=
  List.map_inj_right (f := Lit.int k) (fun x y e => by injection e) |>.1 h
/-- Two arrays of numbers. -/
theorem eql_ints {P : Program} {t e : TypeId} {n : Nat} {k : IntKind} (ht : P.underlying t = some (.array n e)) (he : P.underlying e = some (.int k)) (hce : P.cellsOf e = 1) (hct : P.cellsOf t = n) (a b : List Int) (ha : a.length = n) (hb : b.length = n) (wa : ∀ z ∈ a, (Lit.int k z).wf = true) (wb : ∀ z ∈ b, (Lit.int k z).wf = true)
    (hk : P.keyTypeAt 2 t = true) (w : World) :
    (Op.equalIn 10000 t (.agg (a.map (Value.int k)).toArray) (.agg (b.map (Value.int k)).toArray)).run P w = .ok (decide (a = b)) w := by
  have hf : ∀ c : List Int, c.length = n → (Value.agg (c.map (Value.int k)).toArray).formed P t = true := fun c hc => by simp [Value.formed, ht, hct, hc]
  obtain ⟨r, hr, hiff⟩ := run_equalIn_deep (P := P) 9998 2 t hk w 2 2 _ _ _ _ (hf a ha) (hf b hb) (keyLits_ints ht he hce hct a ha wa) (keyLits_ints ht he hce hct b hb wb)
  rw [hr]
  congr 1
  by_cases e : a = b
  · rw [decide_eq_true e]; exact hiff.2 (by rw [e])
  · rw [decide_eq_false e]
    cases r with
    | false => rfl
    | true => exact absurd (map_int_inj (hiff.1 rfl)) e

def toInts (l : List UInt8) : List Int := l.map fun x => (x.toNat : Int)
theorem toInts_inj {a b : List UInt8} (h : toInts a = toInts b) : a = b :=
  List.map_inj_right (f := fun x : UInt8 => (x.toNat : Int)) (fun x y e => UInt8.toNat_inj.1 (by omega)) |>.1 h
theorem wf_u8 (l : List UInt8) : ∀ z ∈ toInts l, (Lit.int .u8 z).wf = true := by
  intro z hz
  obtain ⟨x, _, rfl⟩ := List.mem_map.1 hz
  have := x.toNat_lt
  simp [Lit.wf, IntKind.min, IntKind.max, IntKind.signed, IntKind.bits]
  omega
theorem equal_sum (a b : List UInt8) (ha : a.length = 32) (hb : b.length = 32) (w : World) : (Op.equalIn 10000 30 (sumV a) (sumV b)).run Tryd.prog w = .ok (decide (a = b)) w := by
  have ea : sumV a = .agg ((toInts a).map (Value.int .u8)).toArray := by unfold sumV toInts; rw [List.map_map]; rfl
  have eb : sumV b = .agg ((toInts b).map (Value.int .u8)).toArray := by unfold sumV toInts; rw [List.map_map]; rfl
  rw [ea, eb, eql_ints Tryd.underlying30 Tryd.underlying5 (by kernel_rfl) (by kernel_rfl) _ _ (by simpa [toInts] using ha) (by simpa [toInts] using hb) (wf_u8 a) (wf_u8 b) (by kernel_rfl)]
  congr 1
  by_cases e : a = b
  · subst e; simp
  · rw [decide_eq_false e, decide_eq_false (fun h => e (toInts_inj h))]
/-- 'a == b' of two hashes. -/
theorem eql_sum (a b : List UInt8) (ha : a.length = 32) (hb : b.length = 32) (w : World) : (binOp .eql 30 (sumV a) (sumV b)).run Tryd.prog w = .ok (.bool (decide (a = b))) w := by
  unfold sumV
  rw [run_eql_struct]
  have := equal_sum a b ha hb w
  unfold sumV at this
  rw [this]
  rfl
theorem neq_sum (a b : List UInt8) (ha : a.length = 32) (hb : b.length = 32) (w : World) : (binOp .neq 30 (sumV a) (sumV b)).run Tryd.prog w = .ok (.bool (!decide (a = b))) w := by
  have := equal_sum a b ha hb w
  unfold sumV at this ⊢
  simp [binOp, Op.equal, Op.maxDepth, this]
theorem guard_sum : Tryd.prog.eqGuardType Tryd.prog.depth 30 = false := by kernel_rfl
theorem guard_run (op : BinOp) (x y : Operand) (a b : List UInt8) (w : World) : (eqGuard op 30 x y (sumV a) (sumV b)).run Tryd.prog w = .ok () w := run_eqGuard_agg w op 30 x y _ _ guard_sum
end Go.Proofs.YtcecncbhfcoilaaDoor
