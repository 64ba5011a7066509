/- The parts of TypeOf: fun, pairType, argTypes, ownType, variable, Context. -/
import Derived.Test.YtnodebcbnfkioaaDoorSizeT
import Derived.Test.YtnodebcbnfkioaaDoorSame
namespace Go.Proofs.YtnodebcbnfkioaaDoor
open Go.RowKit

/-- A block that is known whole is a slice. -/
theorem Rep.Sl.of_blk {α : Type} {R : Rep α} {S S' : Nat → Prop} {W : World} {m : Nat} {t : TypeId} {l : List α} {xs : List Value} {n c : Nat} (hb : Blk W m t xs.toArray) (h : R.Ch S W l xs) (hS : ∀ b, S b → S' b) (hm : S' m) (hn : l.length = n) :
    R.Sl S' W l (.slice (some ⟨m, 0, none⟩) n c) := by
  subst hn
  refine ⟨_, c, rfl, fun _ => ⟨_, rfl, hm, Rep.Arr.of_cells (h.keep hS (fun _ _ => rfl)) (fun j u hu => ?_)⟩⟩
  have e : (⟨m, 0, none⟩ : Addr).add j = ⟨m, j, none⟩ := by unfold Addr.add; split <;> simp_all
  rw [e, hb.cell]
  simpa using hu
theorem tm_one {S : Nat → Prop} {W : World} {A : Tm} {a b c d e : Value} (h : IsTm S W A (.agg #[a, b, c, d, e])) : TmR.Ch S W [A] [a, b, c, d, e] := Rep.Ch.one (R := TmR) (vs := [a, b, c, d, e]) h
theorem tm_cons {S : Nat → Prop} {W : World} {A : Tm} {l : List Tm} {a b c d e : Value} {xs : List Value} (h : IsTm S W A (.agg #[a, b, c, d, e])) (k : TmR.Ch S W l xs) : TmR.Ch S W (A :: l) (a :: b :: c :: d :: e :: xs) :=
  Rep.Ch.append (l := [A]) (xs := [a, b, c, d, e]) (tm_one h) k

end Go.Proofs.YtnodebcbnfkioaaDoor
