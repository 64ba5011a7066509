/- Same. -/
import Derived.Test.YtnodebcbnfkioaaDoorPlaces
namespace Go.Proofs.YtnodebcbnfkioaaDoor
open Go.RowKit Go.Shelf

attribute [local go_sem] Oper.semAt_some

def alike (p : Ty × Ty) : Bool := p.1.kind == p.2.kind && p.1.args.length == p.2.args.length
def Ty.same (S T : Ty) : Bool := (S.order2 T).all alike

end Go.Proofs.YtnodebcbnfkioaaDoor
