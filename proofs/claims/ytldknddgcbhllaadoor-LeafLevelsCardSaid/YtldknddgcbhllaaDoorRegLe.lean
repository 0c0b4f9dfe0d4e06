/-
  A region that goes in its own order, by a table, over any relation of worlds.
-/
import Derived.Test.YtldknddgcbhllaaDoorMGen
namespace Go.Proofs.YtldknddgcbhllaaDoor
open Go.RowKit

/-- A region that goes in its own order, over any relation of worlds. -/
theorem wp_region_le0 {P : Program} {Q : Exit → Act → World → Prop} {a0 : Act} {id : Nat} {w : World} {l : List Oper} {Lx : World → World → Prop} (hrf : ∀ {u}, Lx u u) (htr : ∀ {u v x}, Lx u v → Lx v x → Lx u x) (Ts : List (RX Lx)) (hback : rback l.toArray = true) (hap : rapart l.toArray = true) (hlt : (rdsts l.toArray).all (fun d => decide (d < a0.tmps.size)) = true)
    (hop : RAll P l.toArray Q a0 w (tabX Ts) Lx 0 l)
    (hfin : ∀ a w', RFrame l.toArray a0 a → Lx w w' → (∀ j, j < l.toArray.size → tabX Ts j (rgot l.toArray a j) w') → Q .normal a w') : (Code.region id l.toArray false).wp P Q a0 w := by
  refine wp_region_inv0 (tabX Ts) Lx hback hap hlt hrf (fun u v w h k => htr h k) (fun i v w w' h k => (Ts.getD i RX.any).st v w w' h k) (fun i o ho => ?_) (fun a w' hF hL hT => hfin a w' hF hL hT)
  have := rall_at l 0 hop i o (by simpa using ho)
  rwa [Nat.zero_add] at this
end Go.Proofs.YtldknddgcbhllaaDoor
