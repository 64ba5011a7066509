/- Lists of types that are the same. -/
import Derived.Test.YtnodebcbnfkioaaDoorTypeArgs
namespace Go.Proofs.YtnodebcbnfkioaaDoor
open Go.RowKit

def sameAll : List Ty → List Ty → Bool
  | [], [] => true
  | a :: r, b :: s => a.same b && sameAll r s
  | _, _ => false
end Go.Proofs.YtnodebcbnfkioaaDoor
