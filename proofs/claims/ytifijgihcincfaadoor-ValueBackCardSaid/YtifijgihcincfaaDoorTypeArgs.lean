/- The types that a node asks of its parts, and its own. -/
import Derived.Test.YtifijgihcincfaaDoorTypeParts
import Derived.Deep.RegionLaw
namespace Go.Proofs.YtifijgihcincfaaDoor
open Go.RowKit

def tyNat : Ty := .mk 1 []
def tyList : Ty := .mk 2 []
def tyUnit : Ty := .mk 5 []
def tyFun (A B : Ty) : Ty := .mk 4 [A, B]
/-- What the parts of a node must have. -/
def argTys (k : Int) (T : Ty) : List Ty :=
  if k = 5 then [tyNat] else if k = 8 then [tyNat, tyList] else if k = 6 then [T, tyFun tyNat (tyFun T T), tyNat] else if k = 9 then [T, tyFun tyNat (tyFun tyList (tyFun T T)), tyList] else []
/-- What a node has. -/
def ownTy (k : Int) (T : Ty) : Ty := if k = 4 ∨ k = 5 then tyNat else if k = 7 ∨ k = 8 then tyList else if k = 13 then tyUnit else T

/-- The list l, in blocks of S or new ones. -/
def InTys (S : Nat → Prop) (w : World) (l : List Ty) (e : Ending) (w' : World) : Prop :=
  ∃ v, e = .returned v ∧ TyR.Sl (fun b => (S b ∨ w.heap.size ≤ b) ∧ b < w'.heap.size) w' l v ∧ Below w.heap.size w w'

theorem built_tys {S : Nat → Prop} {w W : World} {l : List Ty} {xs : List Value} {n m : Nat} (hb : Below w.heap.size w W) (h : TyR.Ch (fun b => (S b ∨ w.heap.size ≤ b) ∧ b < W.heap.size) W l xs) (hn : l.length = n) (hm : W.heap.size = m) :
    TyR.Sl (fun b => (S b ∨ w.heap.size ≤ b) ∧ b < (W.alloc (.cells xs.toArray 30)).heap.size) (W.alloc (.cells xs.toArray 30)) l (.slice (some ⟨m, 0, none⟩) n n) := by
  subst hn
  subst hm
  exact Rep.Sl.built (R := TyR) h (fun b hb => hb.2) _ (fun b hb => ⟨hb.1, by have := hb.2; simp; omega⟩) ⟨.inr hb.size, by simp⟩

theorem IsTy.form2 {S : Nat → Prop} {w : World} {k : Int} {A B : Ty} {v : Value} (h : IsTy S w (.mk k [A, B]) v) : ∃ a c, v = .agg #[.int .i64 k, .slice a 2 c] := h.form

/-- The variables of argTypes. -/
theorem argTypes_world (w : World) (x0 x1 x2 x3 x4 : Value) : ∃ W, W = ((w.alloc (Obj.cells #[x0, x1, x2, x3, x4] 34)).alloc (Obj.cells #[.int .i64 1, .slice none 0 0] 30)).alloc (Obj.cells #[.int .i64 2, .slice none 0 0] 30) ∧
    Below w.heap.size w W ∧ W.heap.size = w.heap.size + 3 ∧ Blk W w.heap.size 34 #[x0, x1, x2, x3, x4] ∧ Blk W (w.heap.size + 1) 30 #[.int .i64 1, .slice none 0 0] ∧ Blk W (w.heap.size + 1 + 1) 30 #[.int .i64 2, .slice none 0 0] := by
  obtain ⟨b1, z1, k1⟩ := new_blk (Below.refl w.heap.size w) (Nat.le_refl _) #[x0, x1, x2, x3, x4] 34
  generalize w.alloc (Obj.cells #[x0, x1, x2, x3, x4] 34) = W1 at b1 z1 k1 ⊢
  obtain ⟨b2, z2, k2⟩ := new_blk b1 b1.size #[.int .i64 1, .slice none 0 0] 30
  have k1 := k1.alloc (Obj.cells #[.int .i64 1, .slice none 0 0] 30)
  generalize W1.alloc (Obj.cells #[.int .i64 1, .slice none 0 0] 30) = W2 at b2 z2 k1 k2 ⊢
  obtain ⟨b3, z3, k3⟩ := new_blk b2 b2.size #[.int .i64 2, .slice none 0 0] 30
  have k1 := k1.alloc (Obj.cells #[.int .i64 2, .slice none 0 0] 30)
  have k2 := k2.alloc (Obj.cells #[.int .i64 2, .slice none 0 0] 30)
  rw [z1] at k2
  rw [z2, z1] at k3
  exact ⟨_, rfl, b3, by omega, k1, k2, k3⟩

end Go.Proofs.YtifijgihcincfaaDoor
