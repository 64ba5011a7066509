/- Context, Clone, TypeOf. -/
import Derived.Test.YtnodebcbnfkioaaDoorTypeOf
import Derived.Deep.RegionHeld3
import Derived.Lib.LazyBuf
namespace Go.Proofs.YtnodebcbnfkioaaDoor
open Go.RowKit

/-- The error of a context. -/
def ctxErr (g : List Ty) : Int := if 16 < g.length then 3 else errs g

/-- What TypeOf returns. -/
def Tm.typeOf (t : Tm) (g : List Ty) : Except Int Ty := if ctxErr g = 0 then if t.err = 0 then t.typ g else .error t.err else .error (ctxErr g)

end Go.Proofs.YtnodebcbnfkioaaDoor
