/- typeOf. -/
import Derived.Test.YtnodebcbnfkioaaDoorTypeSpec
import Derived.Deep.DeepAppendRoom
import Derived.ArgAppend
import Derived.Sort.LoopGhostIn
namespace Go.Proofs.YtnodebcbnfkioaaDoor
open Go.RowKit

/-- The context's own cells stand. -/
def Still (base : Nat) (c : Value) (n : Nat) (w w' : World) : Prop := ∀ xs, w.ownsRow base 30 2 c n xs → w'.ownsRow base 30 2 c n xs

theorem own_still {S : Nat → Prop} {base : Nat} {c : Value} {g : List Ty} {w w' : World} (h : TyR.Own S base c g w) (hs : Still base c g.length w w') (hg : w.grownBy w' c.ownBlock) : TyR.Own S base c g w' := by
  obtain ⟨xs, hown, hc⟩ := h
  exact ⟨xs, hs xs hown, hc.keep (fun b hb => ⟨hb.1, Nat.lt_of_lt_of_le hb.2.1 hg.size, hb.2.2⟩) (fun p hp => World.cell?_of_block (hg.block p.block hp.2.1 (fun e => hp.2.2 e.symm)))⟩

/-- What holds when the parts of a node are gone through: the context is c', its types g'. -/
structure Rest (w W1 : World) (S : Nat → Prop) (base : Nat) (c : Value) (g : List Ty) (t : Tm) (base' : Nat) (c' : Value) (g' : List Ty) : Prop where
  own : TyR.Own (fun b => (S b ∨ w.heap.size + 2 ≤ b) ∧ c'.ownBlock ≠ some b) base' c' g' W1
  back : ∀ W2, W1.grownBy W2 c'.ownBlock → Still base' c' g'.length W1 W2 → w.grownBy W2 c.ownBlock ∧ Still base c g.length w W2
  lies : ∀ b, c'.ownBlock = some b → (b < w.heap.size ∨ w.heap.size + 2 ≤ b) ∧ ¬ S b
  g' : g' = if t.kind = 2 then g ++ [t.type] else g
  base' : base' ≤ W1.heap.size
  size : w.heap.size + 2 ≤ W1.heap.size
  keeps : ∀ p : Addr, S p.block → W1.cell? p = w.cell? p

theorem Rest.next {w W1 W2 : World} {S : Nat → Prop} {base base' : Nat} {c c' : Value} {g g' : List Ty} {t : Tm} (h : Rest w W1 S base c g t base' c' g') (hS : ∀ b, S b → b < w.heap.size) (hg : W1.grownBy W2 c'.ownBlock) (hs : Still base' c' g'.length W1 W2) : Rest w W2 S base c g t base' c' g' where
  own := own_still h.own hs hg
  back W3 h1 h2 := h.back W3 (only_trans hg h1) (fun xs hx => h2 xs (hs xs hx))
  lies := h.lies
  g' := h.g'
  base' := Nat.le_trans h.base' hg.size
  size := Nat.le_trans h.size hg.size
  keeps p hp := (World.cell?_of_block (hg.block p.block (by have := hS _ hp; have := h.size; omega) (fun e => (h.lies _ e.symm).2 hp))).trans (h.keeps p hp)

end Go.Proofs.YtnodebcbnfkioaaDoor
