/- append in a drawn region: of a list of types, whatever its slice. -/
import Derived.Test.YtieafbmabnohhaaDoorSlices
import Derived.Laws.OwnMore
import Derived.Deep.AppendLies
namespace Go.Proofs.YtieafbmabnohhaaDoor
open Go.RowKit

theorem Turn.far {X : Nat → Prop} {a b c : World} (h : Turn X a b) (k : Below a.heap.size b c) : Turn X a c :=
  ⟨k.os.trans h.os, k.tape.trans h.tape, k.output.trans h.output, Nat.le_trans h.size k.size, fun i hi hx => (k.block i hi).trans (h.block i hi hx)⟩
/-- Blocks of another kind than g, as of a world. -/
theorem blk_new1 (w : World) (o : Obj) (cs : Array Value) (t : TypeId) : Blk ((w.alloc o).alloc (.cells cs t)) (w.heap.size + 1) t cs := by
  have h := Blk.new (w.alloc o) t cs
  rwa [World.size_alloc] at h

/-- What append is given: a list of types, in cells that lie apart from the slice's own. -/
def Src (S : Nat → Prop) (v : Value) (w : World) (m : List Ty) (u : Value) : Prop :=
  (u = .slice none 0 0 ∧ m = []) ∨ ∃ ad c news, u = .slice (some ad) m.length c ∧ TyR.Ch (fun b => S b ∧ b < w.heap.size ∧ v.ownBlock ≠ some b) w m news ∧ ∀ j y, news[j]? = some y → w.cell? (ad.add j) = some y

theorem src_ctx {g : Nat} {R w : World} {G : List Ty} {s v : Value} (h : Ctx g R G s) (ht : Turn (· = g) R w) (hv : ∀ b, v.ownBlock = some b → R.heap.size ≤ b) : Src (Good (· = g) R) v w G s := by
  have hs : TyR.Sl (fun b => Good (· = g) R b ∧ b < w.heap.size ∧ v.ownBlock ≠ some b) w G s :=
    h.sl.keep (fun b hb => ⟨hb, Nat.lt_of_lt_of_le hb.2 ht.size, fun e => by have := hv b e; have := hb.2; omega⟩) (fun p hp => World.cell?_of_block (ht.block p.block hp.2 hp.1))
  rcases h.formed with rfl | ⟨a, n, c, rfl⟩
  · exact .inl ⟨rfl, hs.none_nil⟩
  · right
    obtain ⟨A, c', e, hA⟩ := hs
    simp only [Value.slice.injEq] at e
    obtain ⟨rfl, rfl, rfl⟩ := e
    by_cases hG : G = []
    · subst hG
      exact ⟨a, _, [], rfl, Rep.Ch.nil _ _, fun j y hy => by simp at hy⟩
    · obtain ⟨a', ea, _, har⟩ := hA hG
      cases ea
      obtain ⟨news, h1, h2⟩ := har.cells
      exact ⟨a, _, news, rfl, h1, h2⟩

theorem src_one {g q : Nat} {R w : World} {T : Ty} {x y v : Value} (hk : Blk w q 30 #[x, y]) (h : Typ g R T (.agg #[x, y])) (ht : Turn (· = g) R w) (hv : ∀ b, v.ownBlock = some b → R.heap.size ≤ b) :
    Src (Good (· = g) R) v w [T] (.slice (some ⟨q, 0, none⟩) 1 1) := by
  have hi : IsTy (fun b => Good (· = g) R b ∧ b < w.heap.size ∧ v.ownBlock ≠ some b) w T (.agg #[x, y]) :=
    IsTy.keep (fun b hb => ⟨hb, Nat.lt_of_lt_of_le hb.2 ht.size, fun e => by have := hv b e; have := hb.2; omega⟩) (fun p hp => World.cell?_of_block (ht.block p.block hp.2 hp.1)) _ h
  refine .inr ⟨_, 1, [x, y], rfl, Rep.Ch.one (R := TyR) (vs := [x, y]) hi, World.news_of_block hk⟩

theorem run_append_ty {w : World} {S : Nat → Prop} {base : Nat} {l m : List Ty} {v u : Value} (ty : TypeId) (hown : TyR.Own S base v l w) (hsrc : Src S v w m u) (hlen : l.length + m.length ≤ 1000000) (hbase : base ≤ w.heap.size) :
    ∃ v' w', (Builtin.append_ #[27, 27] ty #[v, u]).run Tryd.prog w = .ok v' w' ∧ TyR.Own S base v' (l ++ m) w' ∧ w.grownBy w' v.ownBlock ∧ (v'.ownBlock = v.ownBlock ∨ v'.ownBlock = some w.heap.size) := by
  obtain ⟨i0, hi, hz0, hz1, hz2⟩ := info_parts info_type
  obtain ⟨xs, hxo, hxc⟩ := hown
  rcases hsrc with ⟨rfl, rfl⟩ | ⟨ad, c, news, rfl, hnc, hnl⟩
  · refine ⟨v, w, run_append_owned_none (P := Tryd.prog) (w := w) base 27 ty 30 i0 2 Tryd.underlying27 hi v _ xs hxo, ?_, ⟨rfl, rfl, rfl, Nat.le_refl _, fun _ _ _ => rfl⟩, .inl rfl⟩
    rw [List.append_nil]
    exact ⟨xs, hxo, hxc⟩
  · obtain ⟨v', w', hr, h2, h3, _, h5⟩ := run_append_own_at (P := Tryd.prog) w base 27 ty 30 i0 _ 2 32 Tryd.underlying27 hi hz0 hz1 hz2 rfl (by decide) v _ xs hxo ad m.length c news hnc.1 hnl hnc.oneCells (by simp only [maxLen]; omega) (by omega) hbase
    exact ⟨v', w', hr, Rep.Own.more (R := TyR) hxo hxc hnc h2 h3 h5, h3, h5⟩

theorem step_append_ty {w : World} {ops : Array Oper} {o : Oper} {a : Act} {K : Act → World → Prop} {Q : Exit → Act → World → Prop} {E : Prop} (hgd : o.guard = none) (s x : Operand)
    (ho : o.op = .call { callee := .builtin .append, args := #[s, x], argTypes := #[27, 27] }) {S : Nat → Prop} {base : Nat} {l m : List Ty} {v u : Value} (hs : a.eval s = v) (hx : a.eval x = u)
    (hown : TyR.Own S base v l w) (hsrc : Src S v w m u) (hlen : l.length + m.length ≤ 1000000) (hbase : base ≤ w.heap.size)
    (h : ∀ v' w', TyR.Own S base v' (l ++ m) w' → w.grownBy w' v.ownBlock → (v'.ownBlock = v.ownBlock ∨ v'.ownBlock = some w.heap.size) → Below base w w' → K (a.put o.dst v') w') :
    if Region.wanted o (yielded ops a.tmps) = true then Oper.wp Tryd.prog o a w K Q else E := by
  have hw : Region.wanted o (yielded ops a.tmps) = true := by simp [Region.wanted, hgd]
  rw [if_pos hw]
  obtain ⟨v', w', hr, h1, h2, h3⟩ := run_append_ty (w := w) o.type hown hsrc hlen hbase
  unfold Oper.wp execOp
  simp only [ho, resolve, invoke, builtin, Sem.run_bind, Sem.run_pure, Result.andThen_ok, List.map_toArray, List.map_cons, List.map_nil, hs, hx, hr]
  exact h v' w' h1 h2 h3 ⟨h2.os, h2.tape, h2.output, h2.size, fun i hi => h2.block i (by omega) (fun e => by have := (hown.lt i e.symm).1; omega)⟩

/-- A slice of the call's own as a context. -/
theorem own_ctx {g : Nat} {R w : World} {v : Value} {l : List Ty} (h : TyR.Own (Good (· = g) R) R.heap.size v l w) (hR : g < R.heap.size) (hok : ∀ U ∈ l, U.ok = true ∧ U.nodes ≤ 3) : Ctx g w l v :=
  ⟨h.sl.keep (fun b hb => ⟨fun e => hb.1.elim (fun x => x.1 e) (fun x => by have e' : b = g := e; omega), hb.2⟩) (fun _ _ => rfl), own_formed h, hok⟩
theorem own_ne {v v' : Value} {n q : Nat} (h : v'.ownBlock = v.ownBlock ∨ v'.ownBlock = some n) (hv : v.ownBlock = none) (hq : q < n) : v'.ownBlock ≠ some q := by
  intro e
  rcases h with h | h
  · rw [h, hv] at e; cases e
  · rw [h] at e; cases e; omega
theorem own_far {S : Nat → Prop} {base q : Nat} {v : Value} {l : List Ty} {w : World} (h : TyR.Own S base v l w) (hq : w.heap.size ≤ q) : v.ownBlock ≠ some q := fun e => by have := (h.lt q e).2; omega
theorem Blk.grownNe {w w' : World} {q : Nat} {t : TypeId} {cs : Array Value} {row : Option Nat} (h : Blk w q t cs) (hg : w.grownBy w' row) (hne : row ≠ some q) : Blk w' q t cs := h.carry (hg.block q h.lt (fun e => hne e.symm))
end Go.Proofs.YtieafbmabnohhaaDoor
