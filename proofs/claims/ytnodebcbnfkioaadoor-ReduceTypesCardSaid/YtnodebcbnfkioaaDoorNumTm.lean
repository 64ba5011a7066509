/- The term of a number. -/
import Derived.Test.YtnodebcbnfkioaaDoorMakeT
namespace Go.Proofs.YtnodebcbnfkioaaDoor
open Go.RowKit

/-- The term of a number. -/
def numTm : Nat → Tm
  | 0 => .mk 4 0 .zero []
  | n + 1 => .mk 5 0 .zero [numTm n]

end Go.Proofs.YtnodebcbnfkioaaDoor
