/- The types that a node asks of its parts, and its own. -/
import Derived.Test.YtnodebcbnfkioaaDoorTypeParts
import Derived.Deep.RegionLaw
namespace Go.Proofs.YtnodebcbnfkioaaDoor
open Go.RowKit

def tyNat : Ty := .mk 1 []
def tyList : Ty := .mk 2 []
def tyUnit : Ty := .mk 5 []
def tyFun (A B : Ty) : Ty := .mk 4 [A, B]
/-- What the parts of a node must have. -/
def argTys (k : Int) (T : Ty) : List Ty :=
  if k = 5 then [tyNat] else if k = 8 then [tyNat, tyList] else if k = 6 then [T, tyFun tyNat (tyFun T T), tyNat] else if k = 9 then [T, tyFun tyNat (tyFun tyList (tyFun T T)), tyList] else []
/-- What a node has. -/
def ownTy (k : Int) (T : Ty) : Ty := if k = 4 ∨ k = 5 then tyNat else if k = 7 ∨ k = 8 then tyList else if k = 13 then tyUnit else T

end Go.Proofs.YtnodebcbnfkioaaDoor
