/- A call of a Go function as one step of a region that draws its order: for go_region_law. -/
import Derived.Test.YtifijgihcincfaaDoorDeck
import Derived.Deep.AppendLies
import Derived.Deep.RegionLaw
import Derived.Shelf.Abstract
namespace Go.Proofs.YtifijgihcincfaaDoor
open Go.RowKit Go.Shelf

theorem step_call {P : Program} {ops : Array Oper} {o : Oper} {a : Act} {w : World} {K : Act → World → Prop} {Q : Exit → Act → World → Prop} {E : Prop} (hgd : o.guard = none) (f : FuncId) (os : Array Operand) (ts : Array TypeId)
    (ho : o.op = Op.call { callee := Callee.value (Operand.func f), args := os, argTypes := ts }) (vals : Array Value) (hv : os.map a.eval = vals) (hrun : ∀ args w, (callFunc f args).run P w = .ok (.enter f args) w)
    {R : Ending → World → Prop} (hc : Calls P f vals w R) (h : ∀ e w', R e w' → ∃ v, e = .returned v ∧ K (a.put o.dst v) w') :
    if Region.wanted o (yielded ops a.tmps) = true then Oper.wp P o a w K Q else E := by
  have hw : Region.wanted o (yielded ops a.tmps) = true := by simp [Region.wanted, hgd]
  rw [if_pos hw]
  have hx : (execOp a.eval o).run P w = .ok (.enter f vals) w := by
    have := hrun vals w
    simp [execOp, ho, resolve, hv, Act.eval, invoke, Deferred.ofValue, this, go_sem]
  unfold Oper.wp
  rw [hx, Oper.upon_enter]
  refine hc.mono ?_
  intro e w' hr
  obtain ⟨v, rfl, hk⟩ := h e w' hr
  exact hk

/-- Next, as a step. -/
theorem step_next {ops : Array Oper} {o : Oper} {a : Act} {w : World} {K : Act → World → Prop} {Q : Exit → Act → World → Prop} {E : Prop} (hgd : o.guard = none) (s : Operand) (n : Int) (ts : Array TypeId) (g : Nat)
    (ho : o.op = Op.call { callee := Callee.value (Operand.func 34), args := #[s, .const (.int .i64 n)], argTypes := ts }) (hs : a.eval s = .pointer (some ⟨g, 0, none⟩)) (hn : 1 ≤ n) (hn2 : n ≤ 1000000) (hd : Deck w g)
    (h : ∀ r w', 0 ≤ r → r < n → Deck w' g → w.grownBy w' (some g) → K (a.put o.dst (.int .i64 r)) w') : if Region.wanted o (yielded ops a.tmps) = true then Oper.wp Tryd.prog o a w K Q else E :=
  step_call hgd _ _ ts ho #[.pointer (some ⟨g, 0, none⟩), .int .i64 n] (by have e : a.eval (.const (.int .i64 n)) = .int .i64 n := rfl; simp only [List.map_toArray, List.map_cons, List.map_nil, hs, e]) (enters_of Tryd.func34 (by kernel_rfl) rfl) (next_any g n w hn hn2 hd)
    fun e w' ⟨r, he, h0, h1, h2, h3⟩ => ⟨_, he, h r w' h0 h1 h2 h3⟩
end Go.Proofs.YtifijgihcincfaaDoor
