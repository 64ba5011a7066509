/- The term of a number. -/
import Derived.Test.YtifijgihcincfaaDoorMakeT
namespace Go.Proofs.YtifijgihcincfaaDoor
open Go.RowKit

/-- The term of a number. -/
def numTm : Nat → Tm
  | 0 => .mk 4 0 .zero []
  | n + 1 => .mk 5 0 .zero [numTm n]

theorem numTm_pos {n : Nat} (h : 0 < n) : numTm n = .mk 5 0 .zero [numTm (n - 1)] := by
  cases n with
  | zero => omega
  | succ m => rfl
end Go.Proofs.YtifijgihcincfaaDoor
