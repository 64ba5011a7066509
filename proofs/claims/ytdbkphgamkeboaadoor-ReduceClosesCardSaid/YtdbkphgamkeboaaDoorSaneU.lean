/- The sanity check of the second chapter. -/
import Derived.Test.YtdbkphgamkeboaaDoorTypeTop
import Derived.Test.YtdbkphgamkeboaaDoorRefSame
namespace Go.Proofs.YtdbkphgamkeboaaDoor
open Go.RowKit

theorem refSame_is {S T : Ty} {u v : Value} {w : World} (b : Bool) (hb : S.eqb T = b) (hS0 : S.nodes ≤ 400000) (hT0 : T.nodes ≤ 400000) (hS : IsTy (· < w.heap.size) w S u) (hT : IsTy (· < w.heap.size) w T v) :
    Calls Tryd.prog 24 #[u, v] w fun e w' => e = .returned (.bool b) ∧ Below w.heap.size w w' := by
  subst hb
  exact refSame_any 400000 S T u v w hS0 (Nat.le_refl _) hS hT hT0

end Go.Proofs.YtdbkphgamkeboaaDoor
