/- The number of nodes of a term. -/
import Derived.Test.YtifijgihcincfaaDoorTerm
namespace Go.Proofs.YtifijgihcincfaaDoor
open Go.RowKit

mutual
def Tm.size : Tm → Nat
  | .mk _ _ _ l => 1 + sizeAllT l
def sizeAllT : List Tm → Nat
  | [] => 0
  | t :: r => t.size + sizeAllT r
end
theorem sizeT_eq (t : Tm) : t.size = 1 + sizeAllT t.args := by cases t; rfl
theorem sizeAllT_append : ∀ (l r : List Tm), sizeAllT (l ++ r) = sizeAllT l + sizeAllT r
  | [], r => by simp [sizeAllT]
  | t :: l, r => by simp only [List.cons_append, sizeAllT, sizeAllT_append l r]; omega
theorem sizeT_pos (t : Tm) : 1 ≤ t.size := by rw [sizeT_eq]; omega
theorem sizeAllT_len : ∀ (l : List Tm), l.length ≤ sizeAllT l
  | [] => by simp [sizeAllT]
  | t :: r => by
    have := sizeAllT_len r
    have := sizeT_pos t
    simp only [sizeAllT, List.length_cons]
    omega
mutual
theorem size_bulk : ∀ t : Tm, t.size ≤ t.bulk
  | .mk k i T l => by have := sizeAll_bulk l; simp only [Tm.size, Tm.bulk]; omega
theorem sizeAll_bulk : ∀ l : List Tm, sizeAllT l ≤ bulkAll l
  | [] => by simp [sizeAllT, bulkAll]
  | t :: r => by have := size_bulk t; have := sizeAll_bulk r; simp only [sizeAllT, bulkAll]; omega
end
end Go.Proofs.YtifijgihcincfaaDoor
