/- Contexts, types and terms of a call's own; slices that were just built. -/
import Derived.Test.YtieafbmabnohhaaDoorMkContext
namespace Go.Proofs.YtieafbmabnohhaaDoor
open Go.RowKit

/-- A context, and a type, of which nothing lies in the deck's block. -/
structure Ctx (g : Nat) (w : World) (G : List Ty) (s : Value) : Prop where
  sl : TyR.Sl (Good (· = g) w) w G s
  formed : Formed s
  ok : ∀ U ∈ G, U.ok = true ∧ U.nodes ≤ 3
theorem Ctx.turn {g : Nat} {w w' : World} {G : List Ty} {s : Value} (h : Ctx g w G s) (ht : Turn (· = g) w w') : Ctx g w' G s := ⟨h.sl.turn ht, h.formed, h.ok⟩
def Typ (g : Nat) (w : World) (t : Ty) (v : Value) : Prop := IsTy (Good (· = g) w) w t v
theorem Typ.turn {g : Nat} {w w' : World} {t : Ty} {v : Value} (h : Typ g w t v) (ht : Turn (· = g) w w') : Typ g w' t v :=
  IsTy.keep (fun _ hb => ⟨hb.1, Nat.lt_of_lt_of_le hb.2 ht.size⟩) (fun p hp => World.cell?_of_block (ht.block p.block hp.2 hp.1)) _ h
theorem Typ.below {g : Nat} {w : World} {t : Ty} {v : Value} (h : Typ g w t v) : IsTy (· < w.heap.size) w t v := IsTy.keep (fun _ hb => hb.2) (fun _ _ => rfl) _ h
theorem Typ.leaf (g : Nat) (w : World) (k : Int) : Typ g w (.mk k []) (.agg #[.int .i64 k, .slice none 0 0]) := IsTy.leaf _ _ _
theorem Typ.of {g lo : Nat} {w : World} {t : Ty} {v : Value} (h : IsTy (fun b => lo ≤ b ∧ b < w.heap.size) w t v) (hg : g < lo) : Typ g w t v :=
  IsTy.keep (fun b hb => ⟨by omega, hb.2⟩) (fun _ _ => rfl) _ h

/-- A term of the call's own. -/
def Trm (lo : Nat) (w : World) (T : Tm) (v : Value) : Prop := IsTm (fun b => lo ≤ b ∧ b < w.heap.size) w T v
theorem Trm.turn {g lo : Nat} {w w' : World} {T : Tm} {v : Value} (h : Trm lo w T v) (ht : Turn (· = g) w w') (hg : g < lo) : Trm lo w' T v :=
  IsTm.keep (fun _ hb => ⟨hb.1, Nat.lt_of_lt_of_le hb.2 ht.size⟩) (fun p hp => World.cell?_of_block (ht.block p.block hp.2 (by omega))) _ h
theorem Trm.mono {lo lo' : Nat} {w : World} {T : Tm} {v : Value} (h : Trm lo w T v) (hl : lo' ≤ lo) : Trm lo' w T v := IsTm.keep (fun _ hb => ⟨Nat.le_trans hl hb.1, hb.2⟩) (fun _ _ => rfl) _ h
theorem Trm.below {lo : Nat} {w : World} {T : Tm} {v : Value} (h : Trm lo w T v) : IsTm (· < w.heap.size) w T v := IsTm.keep (fun _ hb => hb.2) (fun _ _ => rfl) _ h

/-! Slices that were just built. -/
theorem tm_sl1 {w : World} {x : Tm} {a0 a1 a2 a3 a4 : Value} (h : IsTm (· < w.heap.size) w x (.agg #[a0, a1, a2, a3, a4])) :
    TmR.Sl (· < (w.alloc (.cells #[a0, a1, a2, a3, a4] 34)).heap.size) (w.alloc (.cells #[a0, a1, a2, a3, a4] 34)) [x] (.slice (some ⟨w.heap.size, 0, none⟩) 1 1) :=
  Rep.Sl.built (R := TmR) (Rep.Ch.one (R := TmR) (vs := [a0, a1, a2, a3, a4]) h) (fun _ h => h) (· < (w.alloc (.cells #[a0, a1, a2, a3, a4] 34)).heap.size) (fun b hb => by have hb : b < w.heap.size := hb; simp; omega) (by simp)
theorem tm_sl2 {w : World} {x y : Tm} {a0 a1 a2 a3 a4 b0 b1 b2 b3 b4 : Value} (h : IsTm (· < w.heap.size) w x (.agg #[a0, a1, a2, a3, a4])) (k : IsTm (· < w.heap.size) w y (.agg #[b0, b1, b2, b3, b4])) :
    TmR.Sl (· < (w.alloc (.cells #[a0, a1, a2, a3, a4, b0, b1, b2, b3, b4] 34)).heap.size) (w.alloc (.cells #[a0, a1, a2, a3, a4, b0, b1, b2, b3, b4] 34)) [x, y] (.slice (some ⟨w.heap.size, 0, none⟩) 2 2) :=
  Rep.Sl.built (R := TmR) (Rep.Ch.append (R := TmR) (l := [x]) (Rep.Ch.one (R := TmR) (vs := [a0, a1, a2, a3, a4]) h) (Rep.Ch.one (R := TmR) (vs := [b0, b1, b2, b3, b4]) k)) (fun _ h => h)
    (· < (w.alloc (.cells #[a0, a1, a2, a3, a4, b0, b1, b2, b3, b4] 34)).heap.size) (fun b hb => by have hb : b < w.heap.size := hb; simp; omega) (by simp)
theorem tm_sl3 {w : World} {x y z : Tm} {a0 a1 a2 a3 a4 b0 b1 b2 b3 b4 c0 c1 c2 c3 c4 : Value} (h : IsTm (· < w.heap.size) w x (.agg #[a0, a1, a2, a3, a4])) (k : IsTm (· < w.heap.size) w y (.agg #[b0, b1, b2, b3, b4])) (m : IsTm (· < w.heap.size) w z (.agg #[c0, c1, c2, c3, c4])) :
    TmR.Sl (· < (w.alloc (.cells #[a0, a1, a2, a3, a4, b0, b1, b2, b3, b4, c0, c1, c2, c3, c4] 34)).heap.size) (w.alloc (.cells #[a0, a1, a2, a3, a4, b0, b1, b2, b3, b4, c0, c1, c2, c3, c4] 34)) [x, y, z] (.slice (some ⟨w.heap.size, 0, none⟩) 3 3) :=
  Rep.Sl.built (R := TmR) (Rep.Ch.append (R := TmR) (l := [x]) (Rep.Ch.one (R := TmR) (vs := [a0, a1, a2, a3, a4]) h) (Rep.Ch.append (R := TmR) (l := [y]) (Rep.Ch.one (R := TmR) (vs := [b0, b1, b2, b3, b4]) k) (Rep.Ch.one (R := TmR) (vs := [c0, c1, c2, c3, c4]) m))) (fun _ h => h)
    (· < (w.alloc (.cells #[a0, a1, a2, a3, a4, b0, b1, b2, b3, b4, c0, c1, c2, c3, c4] 34)).heap.size) (fun b hb => by have hb : b < w.heap.size := hb; simp; omega) (by simp)
theorem ty_sl1 {g : Nat} {w : World} {x : Ty} {a0 a1 : Value} (hg : g < w.heap.size) (h : Typ g w x (.agg #[a0, a1])) :
    TyR.Sl (Good (· = g) (w.alloc (.cells #[a0, a1] 30))) (w.alloc (.cells #[a0, a1] 30)) [x] (.slice (some ⟨w.heap.size, 0, none⟩) 1 1) :=
  Rep.Sl.built (R := TyR) (Rep.Ch.one (R := TyR) (vs := [a0, a1]) h) (fun _ h => h.2) (Good (· = g) (w.alloc (.cells #[a0, a1] 30))) (fun b hb => ⟨hb.1, by have := hb.2; simp; omega⟩) ⟨by omega, by simp⟩
theorem ty_sl2 {g : Nat} {w : World} {x y : Ty} {a0 a1 b0 b1 : Value} (hg : g < w.heap.size) (h : Typ g w x (.agg #[a0, a1])) (k : Typ g w y (.agg #[b0, b1])) :
    TyR.Sl (Good (· = g) (w.alloc (.cells #[a0, a1, b0, b1] 30))) (w.alloc (.cells #[a0, a1, b0, b1] 30)) [x, y] (.slice (some ⟨w.heap.size, 0, none⟩) 2 2) :=
  Rep.Sl.built (R := TyR) (Rep.Ch.append (R := TyR) (l := [x]) (Rep.Ch.one (R := TyR) (vs := [a0, a1]) h) (Rep.Ch.one (R := TyR) (vs := [b0, b1]) k)) (fun _ h => h.2)
    (Good (· = g) (w.alloc (.cells #[a0, a1, b0, b1] 30))) (fun b hb => ⟨hb.1, by have := hb.2; simp; omega⟩) ⟨by omega, by simp⟩
theorem ty_sl3 {g : Nat} {w : World} {x y z : Ty} {a0 a1 b0 b1 c0 c1 : Value} (hg : g < w.heap.size) (h : Typ g w x (.agg #[a0, a1])) (k : Typ g w y (.agg #[b0, b1])) (m : Typ g w z (.agg #[c0, c1])) :
    TyR.Sl (Good (· = g) (w.alloc (.cells #[a0, a1, b0, b1, c0, c1] 30))) (w.alloc (.cells #[a0, a1, b0, b1, c0, c1] 30)) [x, y, z] (.slice (some ⟨w.heap.size, 0, none⟩) 3 3) :=
  Rep.Sl.built (R := TyR) (Rep.Ch.append (R := TyR) (l := [x]) (Rep.Ch.one (R := TyR) (vs := [a0, a1]) h) (Rep.Ch.append (R := TyR) (l := [y]) (Rep.Ch.one (R := TyR) (vs := [b0, b1]) k) (Rep.Ch.one (R := TyR) (vs := [c0, c1]) m))) (fun _ h => h.2)
    (Good (· = g) (w.alloc (.cells #[a0, a1, b0, b1, c0, c1] 30))) (fun b hb => ⟨hb.1, by have := hb.2; simp; omega⟩) ⟨by omega, by simp⟩

/-- The deck's block and another one. -/
def Pair2 (g q b : Nat) : Prop := b = g ∨ b = q
theorem Turn.pair {g q : Nat} {a b : World} (h : Turn (· = g) a b) : Turn (Pair2 g q) a b := h.mono fun _ _ e => .inl e
theorem turn_set5 {g : Nat} (w : World) (q : Nat) (a b c d e : Value) : Turn (Pair2 g q) w (((((w.setCell ⟨q, 0, none⟩ a).setCell ⟨q, 1, none⟩ b).setCell ⟨q, 2, none⟩ c).setCell ⟨q, 3, none⟩ d).setCell ⟨q, 4, none⟩ e) :=
  Turn.grown (only_set5 w q a b c d e) (fun _ e => by cases e; exact .inr rfl)
theorem Turn.cell {X : Nat → Prop} {a b : World} (h : Turn X a b) {q i : Nat} (hx : ¬ X q) (hq : q < a.heap.size) : b.cell? ⟨q, i, none⟩ = a.cell? ⟨q, i, none⟩ := World.cell?_of_block (h.block q hq hx)

theorem deck_cells {w : World} {g : Nat} (h : Deck w g) (o : Nat) (k : Int) (v : Value) (h0 : w.cell? ⟨g, o, none⟩ = some (.int .i64 k)) (h1 : w.cell? ⟨g, o + 1, none⟩ = some v) : False := by
  obtain ⟨A, len, cap, pos, hb, _⟩ := h
  have c0 := hb.cell o
  have c1 := hb.cell (o + 1)
  rw [h0] at c0
  rw [h1] at c1
  match o with
  | 0 => simp at c0
  | o + 1 => simp at c1
mutual
/-- A type in memory lies outside of a deck's block. -/
theorem IsTy.good {S : Nat → Prop} {w : World} {g : Nat} (hd : Deck w g) (hS : ∀ b, S b → b < w.heap.size) : ∀ (t : Ty) {v : Value}, IsTy S w t v → IsTy (Good (· = g) w) w t v
  | .mk k l, v, h => by
    unfold IsTy at h ⊢
    obtain ⟨A, c, rfl, h⟩ := h
    refine ⟨A, c, rfl, fun hl => ?_⟩
    obtain ⟨a, rfl, hs, h⟩ := h hl
    refine ⟨a, rfl, ⟨fun e => ?_, hS _ hs⟩, AreTys.good hd hS l h⟩
    match l, hl, h with
    | t :: r, _, h =>
      unfold AreTys at h
      obtain ⟨⟨v0, v1, h0, h1, ht⟩, _⟩ := h
      obtain ⟨A', c', e'⟩ := ht.form
      simp at e'
      obtain ⟨rfl, rfl⟩ := e'
      have hs : a.spot = none := by
        cases hsp : a.spot with
        | none => rfl
        | some x =>
          unfold World.cell? at h0
          rw [hsp] at h0
          split at h0
          · simp at h0
          · cases h0
      have ea : a = ⟨g, a.off, none⟩ := by rw [← hs, ← e]
      have e0 : w.cell? ⟨g, a.off, none⟩ = w.cell? a := by rw [← ea]
      have e1 : w.cell? ⟨g, a.off + 1, none⟩ = w.cell? (a.add 1) := by rw [add_succ', add_zero', ← e]
      exact deck_cells hd a.off _ _ (e0.trans h0) (e1.trans h1)
theorem AreTys.good {S : Nat → Prop} {w : World} {g : Nat} (hd : Deck w g) (hS : ∀ b, S b → b < w.heap.size) : ∀ (l : List Ty) {a : Addr}, AreTys S w l a → AreTys (Good (· = g) w) w l a
  | [], a, _ => by unfold AreTys; trivial
  | t :: r, a, h => by
    unfold AreTys at h ⊢
    obtain ⟨⟨v0, v1, h0, h1, ht⟩, hr⟩ := h
    exact ⟨⟨v0, v1, h0, h1, IsTy.good hd hS t ht⟩, AreTys.good hd hS r hr⟩
end
end Go.Proofs.YtieafbmabnohhaaDoor
