/- The arguments of a function, and what is left. -/
import Derived.Test.YtnodebcbnfkioaaDoorCheck
import Derived.Deep.LoopGhost
namespace Go.Proofs.YtnodebcbnfkioaaDoor
open Go.RowKit Go.Shelf

theorem Row.base {S : Nat → Prop} {b b' : Nat} {v : Value} {ts : List Ty} {w : World} (h : Row S b v ts w) (hb : b' ≤ b) : Row S b' v ts w := by
  obtain ⟨xs, ⟨hl, hown⟩, ht⟩ := h
  refine ⟨xs, ⟨hl, ?_⟩, ht⟩
  rcases hown with h | ⟨g, cap, cur, hv, hg, rest⟩
  · exact .inl h
  · exact .inr ⟨g, cap, cur, hv, Nat.le_trans hb hg, rest⟩

end Go.Proofs.YtnodebcbnfkioaaDoor
