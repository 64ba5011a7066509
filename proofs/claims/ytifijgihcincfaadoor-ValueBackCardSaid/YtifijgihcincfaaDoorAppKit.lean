/- Applications one after the other, and one step of the loop that makes them. -/
import Derived.Test.YtifijgihcincfaaDoorMakeT
import Derived.Test.YtifijgihcincfaaDoorTypeParts
namespace Go.Proofs.YtifijgihcincfaaDoor
open Go.RowKit

def appTm (f : Tm) (l : List Tm) : Tm := l.foldl (fun f a => .mk 3 0 .zero [f, a]) f
theorem appTm_take {f : Tm} {l : List Tm} {j : Nat} (hj : j < l.length) : appTm f (l.take (j + 1)) = .mk 3 0 .zero [appTm f (l.take j), l[j]] := by
  unfold appTm
  rw [List.take_succ_eq_append_getElem hj, List.foldl_append]
  rfl

theorem box55_facts (w : World) (x0 x1 x2 x3 x4 : Value) : ∃ W, W = (w.alloc (Obj.cells #[x0, x1, x2, x3, x4] 34)).alloc (Obj.cells #[.int .i64 0, .int .i64 0, .int .i64 0, .slice none 0 0, .slice none 0 0] 34) ∧
    Below w.heap.size w W ∧ W.heap.size = w.heap.size + 2 ∧ Blk W w.heap.size 34 #[x0, x1, x2, x3, x4] ∧ Blk W (w.heap.size + 1) 34 #[.int .i64 0, .int .i64 0, .int .i64 0, .slice none 0 0, .slice none 0 0] := by
  obtain ⟨b1, z1, k1⟩ := new_blk (Below.refl w.heap.size w) (Nat.le_refl _) #[x0, x1, x2, x3, x4] 34
  generalize w.alloc (Obj.cells #[x0, x1, x2, x3, x4] 34) = W1 at b1 z1 k1 ⊢
  obtain ⟨b2, z2, k2⟩ := new_blk b1 b1.size #[.int .i64 0, .int .i64 0, .int .i64 0, .slice none 0 0, .slice none 0 0] 34
  have k1 := k1.alloc (Obj.cells #[.int .i64 0, .int .i64 0, .int .i64 0, .slice none 0 0, .slice none 0 0] 34)
  rw [z1] at k2
  exact ⟨_, rfl, b2, by omega, k1, k2⟩

def AppRel (S : Nat → Prop) (w : World) (f : Tm) (l : List Tm) (j : Nat) (wr : World) : Prop :=
  ∃ B d A c, Blk wr w.heap.size 34 #[.int .i64 (appTm f (l.take j)).kind, .int .i64 (appTm f (l.take j)).index, .int .i64 (appTm f (l.take j)).type.kind, .slice B (appTm f (l.take j)).type.args.length d, .slice A (appTm f (l.take j)).args.length c] ∧
    IsTm (fun b => (S b ∨ w.heap.size + 2 ≤ b) ∧ b < wr.heap.size) wr (appTm f (l.take j)) (.agg #[.int .i64 (appTm f (l.take j)).kind, .int .i64 (appTm f (l.take j)).index, .int .i64 (appTm f (l.take j)).type.kind, .slice B (appTm f (l.take j)).type.args.length d, .slice A (appTm f (l.take j)).args.length c]) ∧
    Blk wr (w.heap.size + 1) 34 #[.int .i64 0, .int .i64 0, .int .i64 0, .slice none 0 0, .slice none 0 0] ∧ Below w.heap.size w wr

/-- One application more. -/
theorem app_step {S : Nat → Prop} {w wr : World} {f : Tm} {l : List Tm} {j : Nat} {g0 g1 g2 g3 g4 a0 a1 a2 a3 a4 : Value} (hS : ∀ b, S b → b < w.heap.size) (hj : j < l.length) (hb : Blk wr w.heap.size 34 #[g0, g1, g2, g3, g4])
    (hf : IsTm (fun b => (S b ∨ w.heap.size + 2 ≤ b) ∧ b < wr.heap.size) wr (appTm f (l.take j)) (.agg #[g0, g1, g2, g3, g4])) (ha : IsTm S wr l[j] (.agg #[a0, a1, a2, a3, a4]))
    (k1 : Blk wr (w.heap.size + 1) 34 #[.int .i64 0, .int .i64 0, .int .i64 0, .slice none 0 0, .slice none 0 0]) (hbel : Below w.heap.size w wr) {m : Nat} (hm : m = wr.heap.size + 1) :
    AppRel S w f l (j + 1) ((((((((wr.alloc (.cells #[a0, a1, a2, a3, a4] 34)).alloc (.cells #[g0, g1, g2, g3, g4, a0, a1, a2, a3, a4] 34)).setCell ⟨w.heap.size, 0, none⟩ (.int .i64 3)).setCell ⟨w.heap.size, 1, none⟩ (.int .i64 0)).setCell ⟨w.heap.size, 2, none⟩ (.int .i64 0)).setCell ⟨w.heap.size, 3, none⟩ (.slice none 0 0)).setCell
      ⟨w.heap.size, 4, none⟩ (.slice (some ⟨m, 0, none⟩) 2 2))) := by
  have hz := hbel.size
  have hz1 := k1.lt
  have s1 := World.size_alloc wr (.cells #[a0, a1, a2, a3, a4] 34)
  have g1' : wr.grownBy (wr.alloc (.cells #[a0, a1, a2, a3, a4] 34)) none := World.grownBy_alloc _ _ _
  generalize wr.alloc (.cells #[a0, a1, a2, a3, a4] 34) = W1 at s1 g1' ⊢
  have s2 := World.size_alloc W1 (.cells #[g0, g1, g2, g3, g4, a0, a1, a2, a3, a4] 34)
  have g2' : wr.grownBy (W1.alloc (.cells #[g0, g1, g2, g3, g4, a0, a1, a2, a3, a4] 34)) none := only_trans g1' (World.grownBy_alloc _ _ _)
  have kb := Blk.new W1 34 #[g0, g1, g2, g3, g4, a0, a1, a2, a3, a4]
  rw [s1, ← hm] at kb
  generalize W1.alloc (.cells #[g0, g1, g2, g3, g4, a0, a1, a2, a3, a4] 34) = W2 at s2 g2' kb ⊢
  have hg := only_set5 W2 w.heap.size (.int .i64 3) (.int .i64 0) (.int .i64 0) (.slice none 0 0) (.slice (some ⟨m, 0, none⟩) 2 2)
  have kx := (hb.grown g2' (by simp)).set5 (.int .i64 3) (.int .i64 0) (.int .i64 0) (.slice none 0 0) (.slice (some ⟨m, 0, none⟩) 2 2)
  have hs := hg.size
  have hkeep : ∀ p : Addr, p.block ≠ w.heap.size → p.block < wr.heap.size → World.cell? _ p = wr.cell? p := fun p h1 h2 => (World.cell?_of_block (hg.block p.block (by omega) (by simp; omega))).trans (World.cell?_of_block (g2'.block p.block h2 (by simp)))
  unfold AppRel
  rw [appTm_take hj]
  refine ⟨none, 0, some ⟨m, 0, none⟩, 2, kx, isTm_iff.2 ⟨rfl, rfl, IsTy.leaf _ _ _, ?_⟩, (k1.grown g2' (by simp)).grown hg (by simp), (hbel.grown g2' hz (by simp)).grown hg (by have := g2'.size; omega) (fun k e => by cases e; exact Nat.le_refl _)⟩
  refine Rep.Sl.of_blk (R := TmR) (S := fun b => (S b ∨ w.heap.size + 2 ≤ b) ∧ b < wr.heap.size) (kb.grown hg (by simp; omega)) (tm_cons (IsTm.keep (fun _ h => h) (fun p hp => hkeep p (hp.1.elim (fun h => by have := hS _ h; omega) (fun h => by omega)) hp.2) _ hf)
    (tm_one (IsTm.keep (fun b h => ⟨.inl h, by have := hS b h; omega⟩) (fun p hp => hkeep p (by have := hS _ hp; omega) (by have := hS _ hp; omega)) _ ha))) (fun b h => ⟨h.1, by omega⟩) (by omega) rfl
end Go.Proofs.YtifijgihcincfaaDoor
