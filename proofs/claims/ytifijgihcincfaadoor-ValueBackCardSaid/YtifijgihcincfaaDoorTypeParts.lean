/- The parts of TypeOf: fun, pairType, argTypes, ownType, variable, Context. -/
import Derived.Test.YtifijgihcincfaaDoorSizeT
import Derived.Test.YtifijgihcincfaaDoorSame
namespace Go.Proofs.YtifijgihcincfaaDoor
open Go.RowKit

/-- A block that is known whole is a slice. -/
theorem Rep.Sl.of_blk {α : Type} {R : Rep α} {S S' : Nat → Prop} {W : World} {m : Nat} {t : TypeId} {l : List α} {xs : List Value} {n c : Nat} (hb : Blk W m t xs.toArray) (h : R.Ch S W l xs) (hS : ∀ b, S b → S' b) (hm : S' m) (hn : l.length = n) :
    R.Sl S' W l (.slice (some ⟨m, 0, none⟩) n c) := by
  subst hn
  refine ⟨_, c, rfl, fun _ => ⟨_, rfl, hm, Rep.Arr.of_cells (h.keep hS (fun _ _ => rfl)) (fun j u hu => ?_)⟩⟩
  have e : (⟨m, 0, none⟩ : Addr).add j = ⟨m, j, none⟩ := by unfold Addr.add; split <;> simp_all
  rw [e, hb.cell]
  simpa using hu
theorem ty_one {S : Nat → Prop} {W : World} {A : Ty} {x y : Value} (h : IsTy S W A (.agg #[x, y])) : TyR.Ch S W [A] [x, y] := Rep.Ch.one (R := TyR) (vs := [x, y]) h
theorem ty_cons {S : Nat → Prop} {W : World} {A : Ty} {l : List Ty} {x y : Value} {xs : List Value} (h : IsTy S W A (.agg #[x, y])) (k : TyR.Ch S W l xs) : TyR.Ch S W (A :: l) (x :: y :: xs) :=
  Rep.Ch.append (l := [A]) (xs := [x, y]) (ty_one h) k
theorem tm_one {S : Nat → Prop} {W : World} {A : Tm} {a b c d e : Value} (h : IsTm S W A (.agg #[a, b, c, d, e])) : TmR.Ch S W [A] [a, b, c, d, e] := Rep.Ch.one (R := TmR) (vs := [a, b, c, d, e]) h
theorem tm_cons {S : Nat → Prop} {W : World} {A : Tm} {l : List Tm} {a b c d e : Value} {xs : List Value} (h : IsTm S W A (.agg #[a, b, c, d, e])) (k : TmR.Ch S W l xs) : TmR.Ch S W (A :: l) (a :: b :: c :: d :: e :: xs) :=
  Rep.Ch.append (l := [A]) (xs := [a, b, c, d, e]) (tm_one h) k

/-- The tree T, in blocks of S or new ones. -/
def InTy (S : Nat → Prop) (w : World) (T : Ty) (e : Ending) (w' : World) : Prop :=
  ∃ v, e = .returned v ∧ IsTy (fun b => (S b ∨ w.heap.size ≤ b) ∧ b < w'.heap.size) w' T v ∧ Below w.heap.size w w'

/-- Below a type that is too large stands nothing: the pair of the parts of a node. -/
def PairS (S : Nat → Prop) (l : List Ty) (w : World) (e : Ending) (w' : World) : Prop :=
  Below w.heap.size w w' ∧ if (Ty.mk 3 l).err = 0 then ∃ v, e = .returned (.tuple #[v, .int .i64 0]) ∧ IsTy (fun b => S b ∧ b < w'.heap.size) w' (.mk 3 l) v
    else e = .returned (.tuple #[.agg #[.int .i64 0, .slice none 0 0], .int .i64 (Ty.mk 3 l).err])

/-- A slice whose elements lie in blocks of S, the slice itself anywhere. -/
def Rep.Ats {α : Type} (R : Rep α) (S : Nat → Prop) (w : World) (l : List α) (v : Value) : Prop := ∃ A c, v = .slice A l.length c ∧ ∀ i (hi : i < l.length), ∃ a, A = some a ∧ a.block < w.heap.size ∧ R.At S w l[i] (a.add (i * R.n))
theorem Rep.Own.ats {α : Type} {R : Rep α} {S : Nat → Prop} {base : Nat} {v : Value} {l : List α} {w : World} (h : R.Own S base v l w) : R.Ats S w l v := by
  obtain ⟨xs, hown, hc⟩ := h
  rcases hown.2 with ⟨rfl, hn⟩ | ⟨g, cap, cur, rfl, hb, hg, _⟩
  · exact ⟨none, 0, by rw [hn], fun i hi => by omega⟩
  · refine ⟨_, cap, rfl, fun i hi => ⟨_, rfl, (Array.getElem?_eq_some_iff.1 hg).1, ?_⟩⟩
    have h2 : R.Ch S w l xs := hc.keep (fun b hb => hb.1) (fun _ _ => rfl)
    exact Rep.Arr.of_cells h2 (fun j u hu => hown.cells rfl j u hu) i hi

/-- The types of the variables: what comes of one. -/
def VarS (S : Nat → Prop) (g : List Ty) (i : Int) (w : World) (e : Ending) (w' : World) : Prop :=
  Below w.heap.size w w' ∧ if h : i.toNat < g.length then ∃ v, e = .returned (.tuple #[v, .int .i64 0]) ∧ IsTy S w' (g[g.length - 1 - i.toNat]'(by omega)) v
    else e = .returned (.tuple #[.agg #[.int .i64 0, .slice none 0 0], .int .i64 6])

end Go.Proofs.YtifijgihcincfaaDoor
