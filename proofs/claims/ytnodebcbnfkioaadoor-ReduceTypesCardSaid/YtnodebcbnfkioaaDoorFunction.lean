/- Function. -/
import Derived.Test.YtnodebcbnfkioaaDoorResultDefs
namespace Go.Proofs.YtnodebcbnfkioaaDoor
open Go.RowKit Go.Shelf

/-- The first error of some types. -/
def errs : List Ty → Int
  | [] => 0
  | t :: r => if t.err = 0 then errs r else t.err
/-- The slice value v is the types ts. -/
def AreIn (S : Nat → Prop) (w : World) (ts : List Ty) (v : Value) : Prop := ∃ A c, v = .slice A ts.length c ∧ (ts ≠ [] → ∃ a, A = some a ∧ S a.block ∧ AreTys S w ts a)

theorem AreIn.keep {S S' : Nat → Prop} {w w' : World} {ts : List Ty} {v : Value} (h : AreIn S w ts v) (hS : ∀ b, S b → S' b) (hc : ∀ p : Addr, S p.block → w'.cell? p = w.cell? p) : AreIn S' w' ts v := by
  obtain ⟨A, c, hv, h⟩ := h
  refine ⟨A, c, hv, fun hne => ?_⟩
  obtain ⟨a, ha, hs, h⟩ := h hne
  exact ⟨a, ha, hS _ hs, AreTys.keep hS hc ts hs h⟩

theorem nodesAll_take (l : List Ty) (j : Nat) (hj : j < l.length) : nodesAll (l.take (j + 1)) = nodesAll (l.take j) + l[j].nodes := by
  rw [List.take_succ_eq_append_getElem hj, nodesAll_append]
  simp [nodesAll]
theorem nodesAll_take_le (l : List Ty) (j : Nat) : nodesAll (l.take j) ≤ nodesAll l := by
  have := nodesAll_append (l.take j) (l.drop j)
  rw [List.take_append_drop] at this
  omega
end Go.Proofs.YtnodebcbnfkioaaDoor
