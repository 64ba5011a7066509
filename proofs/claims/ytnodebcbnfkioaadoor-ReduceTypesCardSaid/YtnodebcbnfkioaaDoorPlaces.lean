/- The iterator over the places of two types. -/
import Derived.Test.YtnodebcbnfkioaaDoorFunction
import Derived.Deep.AppendLies
import Derived.Deep.RegionLaw
namespace Go.Proofs.YtnodebcbnfkioaaDoor
open Go.RowKit Go.Shelf

attribute [local go_sem] Oper.semAt_some

mutual
/-- The pairs of nodes at the places that both have, in the order in which they come. -/
def Ty.order2 : Ty → Ty → List (Ty × Ty)
  | .mk k l, T => (.mk k l, T) :: orderArgs l T.args
def orderArgs : List Ty → List Ty → List (Ty × Ty)
  | a :: r, b :: s => orderArgs r s ++ a.order2 b
  | _, _ => []
end
def orderSt : List (Ty × Ty) → List (Ty × Ty)
  | [] => []
  | p :: r => orderSt r ++ p.1.order2 p.2

theorem orderArgs_zip : ∀ l m : List Ty, orderArgs l m = orderSt (l.zip m)
  | [], m => by cases m <;> simp [orderArgs, orderSt]
  | a :: r, [] => by simp [orderArgs, orderSt]
  | a :: r, b :: s => by simp [orderArgs, orderSt, orderArgs_zip r s]
theorem order2_eq (S T : Ty) : S.order2 T = (S, T) :: orderSt (S.args.zip T.args) := by
  cases S with
  | mk k l => rw [Ty.order2, orderArgs_zip]; rfl
mutual
theorem order2_length : ∀ (S T : Ty), (S.order2 T).length ≤ S.nodes
  | .mk k l, T => by
    have := orderArgs_length l T.args
    simp only [Ty.order2, Ty.nodes, List.length_cons]
    omega
theorem orderArgs_length : ∀ (l m : List Ty), (orderArgs l m).length ≤ nodesAll l
  | [], m => by cases m <;> simp [orderArgs]
  | a :: r, [] => by simp [orderArgs]
  | a :: r, b :: s => by
    have h1 := order2_length a b
    have h2 := orderArgs_length r s
    simp only [orderArgs, List.length_append, nodesAll]
    omega
end

/-- The cells xs are the pairs of trees ps. -/
def Pairs (S : Nat → Prop) (v : Value) (ps : List (Ty × Ty)) (xs : List Value) (w : World) : Prop :=
  ∀ i (hi : i < ps.length), ∃ u0 u1 v0 v1, xs[i * 4]? = some u0 ∧ xs[i * 4 + 1]? = some u1 ∧ xs[i * 4 + 2]? = some v0 ∧ xs[i * 4 + 3]? = some v1 ∧
    IsTy (fun b => S b ∧ b < w.heap.size ∧ v.ownBlock ≠ some b) w ps[i].1 (.agg #[u0, u1]) ∧ IsTy (fun b => S b ∧ b < w.heap.size ∧ v.ownBlock ≠ some b) w ps[i].2 (.agg #[v0, v1])

def PRow (S : Nat → Prop) (base : Nat) (v : Value) (ps : List (Ty × Ty)) (w : World) : Prop :=
  ∃ xs, w.ownsRow base 197 4 v ps.length xs ∧ Pairs S v ps xs w

theorem Pairs.kept {S : Nat → Prop} {v : Value} {ps : List (Ty × Ty)} {xs : List Value} {w w' : World} {row : Option Nat} (h : Pairs S v ps xs w) (hg : w.grownBy w' row)
    (hr : ∀ k, row = some k → ¬ S k) : Pairs S v ps xs w' := fun i hi => by
  obtain ⟨u0, u1, v0, v1, h0, h1, h2, h3, h4, h5⟩ := h i hi
  have hk : ∀ (t : Ty) (x : Value), IsTy (fun b => S b ∧ b < w.heap.size ∧ v.ownBlock ≠ some b) w t x → IsTy (fun b => S b ∧ b < w'.heap.size ∧ v.ownBlock ≠ some b) w' t x := fun t x ht =>
    IsTy.keep (fun b hb => ⟨hb.1, Nat.lt_of_lt_of_le hb.2.1 hg.size, hb.2.2⟩) (fun p hp => World.cell?_of_block (hg.block p.block hp.2.1 (fun e => hr _ e.symm hp.1))) _ ht
  exact ⟨u0, u1, v0, v1, h0, h1, h2, h3, hk _ _ h4, hk _ _ h5⟩

theorem PRow.kept {S : Nat → Prop} {base : Nat} {v : Value} {ps : List (Ty × Ty)} {w w' : World} {row : Option Nat} (h : PRow S base v ps w) (hg : w.grownBy w' row)
    (hr : ∀ k, row = some k → ¬ S k ∧ k < base) : PRow S base v ps w' := by
  obtain ⟨xs, hown, ht⟩ := h
  have hne : v.ownBlock = none ∨ v.ownBlock ≠ row := by
    cases hv : v.ownBlock with
    | none => exact .inl rfl
    | some g => exact .inr fun e => by have h1 := (hown.lt g hv).1; have h2 := (hr g e.symm).2; omega
  exact ⟨xs, hown.kept hg hne, ht.kept hg fun k e => (hr k e).1⟩

theorem PRow.round {n₀ B : Nat} {v : Value} {ps : List (Ty × Ty)} {w w' : World} (h : PRow (· < n₀) B v ps w) (hk : Kept n₀ B w w') : PRow (· < n₀) B v ps w' := by
  obtain ⟨xs, hown, ht⟩ := h
  refine ⟨xs, ⟨hown.1, ?_⟩, fun i hi => ?_⟩
  · rcases hown.2 with hn | ⟨g, cap, cur, rfl, hb, hg, rest⟩
    · exact .inl hn
    · exact .inr ⟨g, cap, cur, rfl, hb, (hk.block g (Array.getElem?_eq_some_iff.1 hg).1 (.inr hb)).trans hg, rest⟩
  · obtain ⟨u0, u1, v0, v1, h0, h1, h2, h3, h4, h5⟩ := ht i hi
    have hkk : ∀ (t : Ty) (x : Value), IsTy (fun b => b < n₀ ∧ b < w.heap.size ∧ v.ownBlock ≠ some b) w t x → IsTy (fun b => b < n₀ ∧ b < w'.heap.size ∧ v.ownBlock ≠ some b) w' t x := fun t x ht =>
      IsTy.keep (fun b hb => ⟨hb.1, Nat.lt_of_lt_of_le hb.2.1 hk.size, hb.2.2⟩) (fun p hp => World.cell?_of_block (hk.block p.block hp.2.1 (.inl hp.1))) _ ht
    exact ⟨u0, u1, v0, v1, h0, h1, h2, h3, hkk _ _ h4, hkk _ _ h5⟩

theorem PRow.form {S : Nat → Prop} {base : Nat} {v : Value} {ps : List (Ty × Ty)} {w : World} (h : PRow S base v ps w) : ∃ A c, v = .slice A ps.length c := by
  obtain ⟨xs, hown, _⟩ := h
  rcases hown.2 with ⟨rfl, hn⟩ | ⟨g, cap, cur, rfl, _⟩
  · exact ⟨none, 0, by rw [hn]⟩
  · exact ⟨_, cap, rfl⟩

/-- A row of one pair, just built. -/
theorem PRow.one {S : Nat → Prop} {w : World} {T U : Ty} {x y x' y' : Value} (hS : ∀ b, S b → b < w.heap.size) (h : IsTy S (w.alloc (.cells #[x, y, x', y'] 197)) T (.agg #[x, y]))
    (h' : IsTy S (w.alloc (.cells #[x, y, x', y'] 197)) U (.agg #[x', y'])) :
    PRow S w.heap.size (.slice (some ⟨w.heap.size, 0, none⟩) 1 1) [(T, U)] (w.alloc (.cells #[x, y, x', y'] 197)) := by
  refine ⟨[x, y, x', y'], ⟨by simp, .inr ⟨w.heap.size, 1, #[x, y, x', y'], rfl, Nat.le_refl _, heap_alloc_new w _, by simp, by simp [maxLen], by simp, by simp⟩⟩, fun i hi => ?_⟩
  have : i = 0 := by simpa using hi
  subst this
  have hk : ∀ b, S b → S b ∧ b < (w.alloc (.cells #[x, y, x', y'] 197)).heap.size ∧ (Value.slice (some ⟨w.heap.size, 0, none⟩) 1 1).ownBlock ≠ some b := fun b hb =>
    ⟨hb, by have := hS b hb; simp; omega, fun e => by have := hS b hb; simp [Value.ownBlock] at e; omega⟩
  exact ⟨x, y, x', y', rfl, rfl, rfl, rfl, IsTy.keep hk (fun _ _ => rfl) _ h, IsTy.keep hk (fun _ _ => rfl) _ h'⟩

/-- The last pair of a row. -/
theorem PRow.last {S : Nat → Prop} {base : Nat} {s : Value} {ts : List (Ty × Ty)} {t u : Ty} {w : World} (h : PRow S base s (ts ++ [(t, u)]) w) :
    ∃ (g cap : Nat) (A B : Option Addr) (c d : Nat), s = .slice (some ⟨g, 0, none⟩) (ts.length + 1) cap ∧ base ≤ g ∧ g < w.heap.size ∧ ts.length + 1 ≤ cap ∧
      w.cell? ⟨g, ts.length * 4, none⟩ = some (.int .i64 t.kind) ∧ w.cell? ⟨g, ts.length * 4 + 1, none⟩ = some (.slice A t.args.length c) ∧
      w.cell? ⟨g, ts.length * 4 + 2, none⟩ = some (.int .i64 u.kind) ∧ w.cell? ⟨g, ts.length * 4 + 2 + 1, none⟩ = some (.slice B u.args.length d) ∧
      IsTy (fun b => S b ∧ b < w.heap.size) w t (.agg #[.int .i64 t.kind, .slice A t.args.length c]) ∧ IsTy (fun b => S b ∧ b < w.heap.size) w u (.agg #[.int .i64 u.kind, .slice B u.args.length d]) ∧
      PRow S base (.slice (some ⟨g, 0, none⟩) ts.length cap) ts w := by
  obtain ⟨xs, hown, ht⟩ := h
  obtain ⟨x0, x1, y0, y1, h0, h1, h2, h3, h4, h5⟩ := ht ts.length (by simp)
  have e1 : (ts ++ [(t, u)])[ts.length]'(by simp) = (t, u) := by simp
  have e2 : (ts ++ [(t, u)]).length = ts.length + 1 := by simp
  rw [e1] at h4 h5
  obtain ⟨A, c, e⟩ := h4.form
  simp at e
  obtain ⟨rfl, rfl⟩ := e
  obtain ⟨B, d, e⟩ := h5.form
  simp at e
  obtain ⟨rfl, rfl⟩ := e
  have hx : xs.length = (ts.length + 1) * 4 := by simpa using hown.1
  rcases hown.2 with ⟨rfl, hn⟩ | ⟨g, cap, cur, rfl, hb, hg, hnc, hcm, hcs, htake⟩
  · simp at hn
  · have hcell : ∀ j u, xs[j]? = some u → w.cell? ⟨g, j, none⟩ = some u := by
      intro j u hu
      have := hown.cells rfl j u hu
      have e : (⟨g, 0, none⟩ : Addr).add j = ⟨g, j, none⟩ := by unfold Addr.add; split <;> simp_all
      rwa [e] at this
    refine ⟨g, cap, A, B, c, d, by simp, hb, (Array.getElem?_eq_some_iff.1 hg).1, by omega, hcell _ _ h0, hcell _ _ h1, hcell _ _ h2, hcell _ _ h3, IsTy.keep (fun b hb => ⟨hb.1, hb.2.1⟩) (fun _ _ => rfl) _ h4,
      IsTy.keep (fun b hb => ⟨hb.1, hb.2.1⟩) (fun _ _ => rfl) _ h5, xs.take (ts.length * 4), ⟨?_, .inr ⟨g, cap, cur, rfl, hb, hg, ?_, hcm, hcs, ?_⟩⟩, fun i hi => ?_⟩
    · simp; omega
    · omega
    · rw [← htake, e2, List.take_take]; congr 1; omega
    · obtain ⟨u0, u1, v0, v1, k0, k1, k2, k3, k4, k5⟩ := ht i (by simp; omega)
      rw [List.getElem_append_left hi] at k4 k5
      exact ⟨u0, u1, v0, v1, by rw [List.getElem?_take, if_pos (by omega)]; exact k0, by rw [List.getElem?_take, if_pos (by omega)]; exact k1, by rw [List.getElem?_take, if_pos (by omega)]; exact k2,
        by rw [List.getElem?_take, if_pos (by omega)]; exact k3, k4, k5⟩

theorem PRow.snoc {S : Nat → Prop} {base : Nat} {v v' u0 u1 v0 v1 : Value} {ts : List (Ty × Ty)} {t u : Ty} {w w' : World} {xs : List Value}
    (hown : w.ownsRow base 197 4 v ts.length xs) (ht : Pairs S v ts xs w)
    (hn : IsTy (fun b => S b ∧ b < w.heap.size ∧ v.ownBlock ≠ some b) w t (.agg #[u0, u1])) (hn' : IsTy (fun b => S b ∧ b < w.heap.size ∧ v.ownBlock ≠ some b) w u (.agg #[v0, v1]))
    (hown' : w'.ownsRow base 197 4 v' (ts.length + 1) (xs ++ [u0, u1, v0, v1])) (hg : w.grownBy w' v.ownBlock)
    (hb : v'.ownBlock = v.ownBlock ∨ v'.ownBlock = some w.heap.size) : PRow S base v' (ts ++ [(t, u)]) w' := by
  have hx : xs.length = ts.length * 4 := hown.1
  have hkeep : ∀ (u : Ty) (x : Value), IsTy (fun b => S b ∧ b < w.heap.size ∧ v.ownBlock ≠ some b) w u x → IsTy (fun b => S b ∧ b < w'.heap.size ∧ v'.ownBlock ≠ some b) w' u x := by
    intro u x hu
    refine IsTy.keep (fun b hb' => ⟨hb'.1, Nat.lt_of_lt_of_le hb'.2.1 hg.size, ?_⟩) (fun p hp => World.cell?_of_block (hg.block p.block hp.2.1 (fun e => hp.2.2 e.symm))) _ hu
    rcases hb with e | e
    · rw [e]; exact hb'.2.2
    · rw [e]; intro e'; have := hb'.2.1; simp at e'; omega
  refine ⟨xs ++ [u0, u1, v0, v1], by simpa using hown', fun i hi => ?_⟩
  by_cases hl : i < ts.length
  · obtain ⟨a0, a1, b0, b1, h0, h1, h2, h3, h4, h5⟩ := ht i hl
    refine ⟨a0, a1, b0, b1, ?_, ?_, ?_, ?_, ?_, ?_⟩
    · rw [List.getElem?_append_left (by omega)]; exact h0
    · rw [List.getElem?_append_left (by omega)]; exact h1
    · rw [List.getElem?_append_left (by omega)]; exact h2
    · rw [List.getElem?_append_left (by omega)]; exact h3
    · rw [List.getElem_append_left hl]; exact hkeep _ _ h4
    · rw [List.getElem_append_left hl]; exact hkeep _ _ h5
  · have e : i = ts.length := by simp at hi; omega
    subst e
    refine ⟨u0, u1, v0, v1, ?_, ?_, ?_, ?_, ?_, ?_⟩
    · rw [List.getElem?_append_right (by omega), hx]; simp
    · rw [List.getElem?_append_right (by omega), hx]; simp
    · rw [List.getElem?_append_right (by omega), hx]; simp
    · rw [List.getElem?_append_right (by omega), hx]; simp
    · simpa using hkeep _ _ hn
    · simpa using hkeep _ _ hn'

theorem PRow.ne {S : Nat → Prop} {base g : Nat} {v : Value} {ps : List (Ty × Ty)} {w : World} {cs : Array Value} (h : PRow S base v ps w) (hb : Blk w g 30 cs) : v.ownBlock ≠ some g := by
  obtain ⟨xs, hown, _⟩ := h
  rcases hown.2 with ⟨rfl, _⟩ | ⟨g', cap, cur, rfl, _, hg, _⟩
  · simp [Value.ownBlock]
  · intro e
    have e' : g' = g := by simpa [Value.ownBlock] using e
    subst e'
    have e2 := hg.symm.trans hb
    simp at e2

end Go.Proofs.YtnodebcbnfkioaaDoor
