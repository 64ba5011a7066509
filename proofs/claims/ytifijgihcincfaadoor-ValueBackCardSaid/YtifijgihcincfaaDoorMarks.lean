/- The end of a function that ranges over a function. -/
import Derived.Test.YtifijgihcincfaaDoorRange
namespace Go.Proofs.YtifijgihcincfaaDoor
open Go.RowKit Go.Shelf

/-- A function whose rounds deferred nothing has come to its end. -/
theorem marks_end {P : Program} {n : Nat} {fn : Func} {R : Ending → World → Prop} {tmps : Array Value} {D : Nat} {W : World} {v : Value} (hD : W.heap[D]? = some (.deferred (some [])))
    (hres : (results fn tmps).run P (W.putObj D (.deferred none)) = .ok v (W.putObj D (.deferred none))) (hR : R (.returned v) (W.putObj D (.deferred none))) :
    bodyPostM Fence.wide n P fn R .ret { tmps := tmps, defers := [{ target := .collected D, args := #[] }] } W :=
  ⟨by simp, .inl ⟨_, _, rfl, run_takeDeferred hD, v, hres, hR⟩⟩

theorem Blk.putObj {w : World} {g D : Nat} {t : TypeId} {cs : Array Value} (h : Blk w g t cs) (o : Obj) (hne : g ≠ D) : Blk (w.putObj D o) g t cs :=
  h.grown (grownBy_putObj' w D o) (by simp; omega)

theorem below_put {B D : Nat} {w W : World} (h : Below B w W) (o : Obj) (hB : B ≤ w.heap.size) (hD : B ≤ D) : Below B w (W.putObj D o) :=
  h.trans (below_putObj W D o hD (Nat.le_trans hB h.size))
end Go.Proofs.YtifijgihcincfaaDoor
