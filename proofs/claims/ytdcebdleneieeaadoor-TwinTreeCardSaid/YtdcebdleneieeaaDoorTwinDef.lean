/-
  What the functions of package twin tell.
-/
import Derived.Test.YtdcebdleneieeaaDoorTwinFirst
import Derived.Test.YtdcebdleneieeaaDoorTwinWay
import Derived.Test.YtdcebdleneieeaaDoorTwinTurns
namespace Go.Proofs.YtdcebdleneieeaaDoor
open Go.RowKit

/-- The texts on a path's way. -/
def wayZ (x : List UInt8) (m n : Int) (P : Hs) : Ts := if foldLen m n P then Tree.wayL x P (turnsZ m n) else []
/-- The texts on the way of links. -/
def lwayZ (x : List UInt8) (m n : Int) (P : Hs) : Ts := Tree.wayL (Tree.startL x m.toNat n.toNat P) (Tree.restL m.toNat n.toNat P) (Tree.inw m.toNat n.toNat).reverse
abbrev TT := List UInt8 × List UInt8
/-- What is told: twins, or nothing. -/
def twR (o : Option TT) : Value := .tuple #[twV (o.getD ([], [])), .bool o.isSome]
def leavesZ (x y : List UInt8) (m n : Int) (A B : Hs) : Option TT := if (foldZ x m n A).2 && ((foldZ y m n B).2 && decide ((foldZ y m n B).1 = (foldZ x m n A).1)) then Tree.firstT (wayZ x m n A) (wayZ y m n B) else none
def treesZ (x y : List UInt8) (m n : Int) (A B : Hs) : Option TT := if (bothZ x m n A).2 && ((bothZ y m n B).2 && decide ((bothZ x m n A).1.2 = (bothZ y m n B).1.2)) then Tree.firstT (lwayZ x m n A) (lwayZ y m n B) else none
theorem foldZ_ok {x : List UInt8} {m n : Int} {P : Hs} (h : (foldZ x m n P).2 = true) : foldLen m n P = true := by
  unfold foldZ at h
  split at h
  · assumption
  · cases h
theorem bothZ_ok {x : List UInt8} {m n : Int} {P : Hs} (h : (bothZ x m n P).2 = true) : bothLen m n P = true := by
  unfold bothZ at h
  split at h
  · assumption
  · cases h
theorem turnsZ_length {m n : Int} {P : Hs} (h : foldLen m n P = true) : P.length = (turnsZ m n).length := by
  obtain ⟨hok, hl⟩ := foldLen_t h
  rw [hl]
  unfold turnsZ
  rw [if_pos hok]
  rfl
theorem wayL_small : ∀ (x : List UInt8) (P : Hs) (T : List Bool), x.length = 32 → all32 P → ∀ t ∈ Tree.wayL x P T, t.length = 65
  | _, [], T, _, _, t, h => by rw [Tree.wayL_nil] at h; cases h
  | x, s :: P, [], _, _, t, h => by unfold Tree.wayL at h; cases h
  | x, s :: P, b :: T, hx, hP, t, h => by
    rw [Tree.wayL_cons] at h
    rcases List.mem_cons.1 h with rfl | h
    · exact preS_length _ _ _ hx (hP s (by simp))
    · exact wayL_small _ P T (Tree.step_length _ _ _) (fun z hz => hP z (by simp [hz])) t h
theorem wayL_le : ∀ (x : List UInt8) (P : Hs) (T : List Bool), (Tree.wayL x P T).length ≤ P.length
  | _, [], T => by rw [Tree.wayL_nil]; exact Nat.le_refl _
  | x, s :: P, [] => by unfold Tree.wayL; exact Nat.zero_le _
  | x, s :: P, b :: T => by rw [Tree.wayL_cons, List.length_cons, List.length_cons]; have := wayL_le (Tree.step x s b) P T; omega
theorem wayZ_small {x : List UInt8} {m n : Int} {P : Hs} (hx : x.length = 32) (hP : all32 P) : ∀ t ∈ wayZ x m n P, t.length ≤ 1000000 := by
  intro t h
  unfold wayZ at h
  split at h
  · have := wayL_small x P _ hx hP t h; omega
  · cases h
theorem wayZ_le {x : List UInt8} {m n : Int} {P : Hs} : (wayZ x m n P).length ≤ P.length := by
  unfold wayZ
  split
  · exact wayL_le _ _ _
  · exact Nat.zero_le _
theorem restL_ok {m n : Nat} {P : Hs} (hP : all32 P) : all32 (Tree.restL m n P) := by
  intro z hz
  unfold Tree.restL at hz
  split at hz
  · exact hP z (List.mem_of_mem_drop hz)
  · exact hP z hz
theorem restL_le {m n : Nat} {P : Hs} : (Tree.restL m n P).length ≤ P.length := by
  unfold Tree.restL
  split
  · rw [List.length_drop]; omega
  · exact Nat.le_refl _
theorem startL_ok {x : List UInt8} {m n : Nat} {P : Hs} (hx : x.length = 32) (hP : all32 P) (h : Tree.lead m n true = true → P ≠ []) : (Tree.startL x m n P).length = 32 := by
  unfold Tree.startL
  cases hl : Tree.lead m n true with
  | true =>
    match P, hP, h hl with
    | p :: P, hP, _ => exact hP p (by simp)
  | false => exact hx
theorem lwayZ_small {x : List UInt8} {m n : Int} {P : Hs} (hx : x.length = 32) (hP : all32 P) (h : bothLen m n P = true) : ∀ t ∈ lwayZ x m n P, t.length ≤ 1000000 := by
  intro t ht
  obtain ⟨h1, h2⟩ := bothLen_t h
  have h3 := okL_t h1
  have := wayL_small _ _ _ (startL_ok hx hP (lead_ne (by omega) (by omega) h2)) (restL_ok hP) t ht
  omega
theorem lwayZ_le {x : List UInt8} {m n : Int} {P : Hs} : (lwayZ x m n P).length ≤ P.length := Nat.le_trans (wayL_le _ _ _) restL_le
theorem wpList_store_tw {ops : Array Oper} {rest : List Oper} {o : Oper} {a : Act} {w : World} {Q : Exit → Act → World → Prop} (hg : o.guard = none) (x y : Operand) (hop : o.op = .store 32 x y) (q : Nat) (p r : TT) (hx : a.eval x = .pointer (some ⟨q, 0, none⟩)) (hy : a.eval y = twV p) (h : IsTw r w q)
    (hK : wpList Tryd.prog ops Q rest (a.put o.dst undef) (w.setCells q 0 [tV p.1, tV p.2])) : wpList Tryd.prog ops Q (o :: rest) a w := by
  refine wpList_plain hg fun K hK' => ?_
  unfold Oper.wp
  simp [execOp, hop, hx, hy, store_tw h, Result.andThen]
  exact hK' _ _ hK
theorem neq_sum_tt (a b : List UInt8) (ha : a.length = 32) (hb : b.length = 32) (h : ¬ a = b) (w : World) : (binOp .neq 24 (sumV a) (sumV b)).run Tryd.prog w = .ok (.bool true) w := by
  have := neq_sum a b ha hb w
  rwa [decide_eq_false h] at this
end Go.Proofs.YtdcebdleneieeaaDoor
