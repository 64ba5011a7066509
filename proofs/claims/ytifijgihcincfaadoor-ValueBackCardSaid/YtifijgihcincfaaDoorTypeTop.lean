/- Context, Clone, TypeOf. -/
import Derived.Test.YtifijgihcincfaaDoorTypeOf
import Derived.Deep.RegionHeld3
import Derived.Lib.LazyBuf
namespace Go.Proofs.YtifijgihcincfaaDoor
open Go.RowKit

theorem check_is {T : Ty} {v : Value} {w : World} (e0 : Int) (he : T.err = e0) (hsz : T.nodes ≤ 400000) (hT : IsTy (· < w.heap.size) w T v) :
    Calls Tryd.prog 112 #[v] w fun e w' => e = .returned (.int .i64 e0) ∧ Below w.heap.size w w' := by
  subst he
  exact check_any T v w hsz hT

/-- The error of a context. -/
def ctxErr (g : List Ty) : Int := if 16 < g.length then 3 else errs g

/-- A copy of a list of types: the call's own. -/
def CloneR (S : Nat → Prop) (g : List Ty) (w : World) (e : Ending) (w' : World) : Prop := ∃ c, e = .returned c ∧ TyR.Own S w.heap.size c g w' ∧ Below w.heap.size w w'

/-- What TypeOf returns. -/
def Tm.typeOf (t : Tm) (g : List Ty) : Except Int Ty := if ctxErr g = 0 then if t.err = 0 then t.typ g else .error t.err else .error (ctxErr g)

def TypeTopR (t : Tm) (g : List Ty) (w : World) (e : Ending) (w' : World) : Prop :=
  Below w.heap.size w w' ∧ match t.typeOf g with
    | .ok U => ∃ v, e = .returned (.tuple #[v, .int .i64 0]) ∧ IsTy (· < w'.heap.size) w' U v
    | .error k => e = .returned (.tuple #[.agg #[.int .i64 0, .slice none 0 0], .int .i64 k])

theorem errs_zero : ∀ {l : List Ty}, errs l = 0 → ∀ T ∈ l, T.err = 0
  | [], _, T, h => by simp at h
  | t :: r, he, T, h => by
    simp only [errs] at he
    split at he
    · rename_i h0
      simp at h
      rcases h with rfl | h
      · exact h0
      · exact errs_zero he T h
    · rename_i h0; exact absurd he h0
theorem ctxErr_zero {g : List Ty} (h : ctxErr g = 0) : g.length ≤ 16 ∧ ∀ T ∈ g, T.err = 0 := by
  unfold ctxErr at h
  split at h
  · cases h
  · exact ⟨by omega, errs_zero h⟩

theorem top_err {t : Tm} {g : List Ty} {w w3 : World} {c : Int} (hr : t.typeOf g = .error c) (hb : Below w.heap.size w w3) :
    TypeTopR t g w (.returned (.tuple #[.agg #[.int .i64 0, .slice none 0 0], .int .i64 c])) ((w3.setCell ⟨w.heap.size + 1, 0, none⟩ (.int .i64 0)).setCell ⟨w.heap.size + 1, 1, none⟩ (.slice none 0 0)) := by
  have hg := only_set2 w3 (w.heap.size + 1) (.int .i64 0) (.slice none 0 0)
  unfold TypeTopR
  rw [hr]
  exact ⟨hb.grown hg hb.size (fun k e => by cases e; omega), rfl⟩

end Go.Proofs.YtifijgihcincfaaDoor
