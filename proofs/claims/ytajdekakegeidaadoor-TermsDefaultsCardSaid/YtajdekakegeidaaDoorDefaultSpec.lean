/- What is true of defaults: they are valid, and have their type. -/
import Derived.Test.YtajdekakegeidaaDoorApply
namespace Go.Proofs.YtajdekakegeidaaDoor
open Go.RowKit

theorem same_self_pairs : ∀ (l : List (Ty × Ty)), (∀ p ∈ l, p.1 = p.2 ∧ (p.1.order2 p.2).all alike = true) → (orderSt l).all alike = true
  | [], _ => by simp [orderSt]
  | p :: r, h => by
    obtain ⟨a, b⟩ := p
    simp only [orderSt, List.all_append, Bool.and_eq_true]
    exact ⟨same_self_pairs r (fun q hq => h q (by simp [hq])), (h (a, b) (by simp)).2⟩
theorem same_self (n : Nat) : ∀ T : Ty, T.nodes ≤ n → T.same T = true := by
  induction n with
  | zero => intro T h; have := nodes_pos T; omega
  | succ n ih =>
    intro T h
    unfold Ty.same
    rw [order2_eq, List.all_cons, Bool.and_eq_true]
    refine ⟨by simp [alike], same_self_pairs _ fun p hp => ?_⟩
    obtain ⟨k, l⟩ := T
    simp only [Ty.args] at hp
    simp only [Ty.nodes] at h
    obtain ⟨i, hi, rfl⟩ := List.mem_iff_getElem.1 hp
    simp only [List.length_zip, Nat.min_self] at hi
    rw [List.getElem_zip]
    have := nodesAll_get l i hi
    exact ⟨rfl, ih l[i] (by omega)⟩

theorem err_parts {k : Int} {X Y : Ty} (h : (Ty.mk k [X, Y]).err = 0) : X.err = 0 ∧ Y.err = 0 := by
  obtain ⟨h1, h2⟩ := err_zero.1 h
  simp only [Ty.ok, okAll, Bool.and_eq_true] at h1
  simp only [Ty.nodes, nodesAll] at h2
  exact ⟨err_zero.2 ⟨h1.2.1, by omega⟩, err_zero.2 ⟨h1.2.2.1, by omega⟩⟩

theorem dflt_pair (X Y : Ty) : (Ty.mk 3 [X, Y]).dflt = .mk 10 0 .zero [X.dflt, Y.dflt] := by simp [Ty.dflt]
theorem dflt_fun (X Y : Ty) : (Ty.mk 4 [X, Y]).dflt = .mk 2 0 X [Y.dflt] := by simp [Ty.dflt]

theorem dflt_facts (n : Nat) : ∀ T : Ty, T.nodes ≤ n → T.err = 0 → T.dflt.ok = true ∧ T.dflt.size ≤ T.nodes ∧ T.dflt.bulk ≤ 2 * T.nodes ∧ ∀ g, T.dflt.typ g = .ok T := by
  induction n with
  | zero => intro T h; have := nodes_pos T; omega
  | succ n ih =>
    intro T hn he
    rcases Ty.ok_cases (err_zero.1 he).1 with ⟨k, hk, rfl⟩ | ⟨k, X, Y, hk, rfl, hX, hY⟩
    · rcases hk with rfl | rfl | rfl
      · exact ⟨rfl, by decide, by decide, fun g => rfl⟩
      · exact ⟨rfl, by decide, by decide, fun g => rfl⟩
      · exact ⟨rfl, by decide, by decide, fun g => rfl⟩
    · obtain ⟨eX, eY⟩ := err_parts he
      have h64 := err_small he
      simp only [Ty.nodes, nodesAll] at hn h64
      obtain ⟨a1, a2, a3, a4⟩ := ih X (by omega) eX
      obtain ⟨b1, b2, b3, b4⟩ := ih Y (by omega) eY
      rcases hk with rfl | rfl
      · rw [dflt_pair]
        refine ⟨?_, ?_, ?_, fun g => ?_⟩
        · simp [Tm.ok, okAllT, a1, b1, Tm.formed, Tm.kind, Tm.args, Tm.index, Tm.type, arities, Ty.zero, Ty.kind, Ty.args]
        · simp only [Tm.size, sizeAllT, Ty.nodes, nodesAll]; omega
        · simp only [Tm.bulk, bulkAll, Ty.zero, Ty.nodes, nodesAll]; omega
        · rw [typ_node (g' := g) (ps := [X, Y]) (by decide) (by rw [if_neg (by decide)]) (by simp [typAll, a4, b4])]
          show (if (Ty.mk 3 [X, Y]).nodes ≤ 64 then _ else _) = _
          rw [if_pos (by simp only [Ty.nodes, nodesAll]; omega)]
      · rw [dflt_fun]
        refine ⟨?_, ?_, ?_, fun g => ?_⟩
        · simp [Tm.ok, okAllT, b1, Tm.formed, Tm.kind, Tm.args, Tm.index, Tm.type, arities, eX]
        · simp only [Tm.size, sizeAllT, Ty.nodes, nodesAll]; omega
        · simp only [Tm.bulk, bulkAll, Ty.nodes, nodesAll]; omega
        · rw [typ_node (g' := g ++ [X]) (ps := [Y]) (by decide) (by rw [if_pos rfl]) (by simp [typAll, b4])]
          show (if (tyFun X Y).nodes ≤ 64 then _ else _) = _
          rw [if_pos (by simp only [tyFun, Ty.nodes, nodesAll]; omega)]
          rfl

/-- A function applied to the defaults of what it takes. -/
theorem app_facts (n : Nat) : ∀ (U : Ty) (f : Tm) (g : List Ty), U.nodes ≤ n → U.err = 0 → f.ok = true → f.typ g = .ok U →
    (appTm f (U.argsOf.map Ty.dflt)).ok = true ∧ (appTm f (U.argsOf.map Ty.dflt)).typ g = .ok U.res ∧
      (appTm f (U.argsOf.map Ty.dflt)).size ≤ f.size + U.nodes ∧ (appTm f (U.argsOf.map Ty.dflt)).bulk ≤ f.bulk + 4 * U.nodes := by
  induction n with
  | zero => intro U f g h; have := nodes_pos U; omega
  | succ n ih =>
    intro U f g hn he hok hty
    by_cases h4 : U.kind = 4
    · rcases Ty.ok_cases (err_zero.1 he).1 with ⟨k, hk, rfl⟩ | ⟨k, X, Y, hk, rfl, hX, hY⟩
      · simp only [Ty.kind] at h4; omega
      · have h4 : k = 4 := h4
        subst h4
        obtain ⟨eX, eY⟩ := err_parts he
        have h64 := err_small he
        simp only [Ty.nodes, nodesAll] at hn h64
        obtain ⟨a1, a2, a3, a4⟩ := dflt_facts _ X (Nat.le_refl _) eX
        have hty' : (Tm.mk 3 0 .zero [f, X.dflt]).typ g = .ok Y := by
          rw [typ_node (g' := g) (ps := [.mk 4 [X, Y], X]) (by decide) (by rw [if_neg (by decide)]) (by simp [typAll, hty, a4])]
          show (if X.same X = true then _ else _) = _
          rw [if_pos (same_self _ X (Nat.le_refl _))]
        have hok' : (Tm.mk 3 0 .zero [f, X.dflt]).ok = true := by
          simp [Tm.ok, okAllT, a1, hok, Tm.formed, Tm.kind, Tm.args, Tm.index, Tm.type, arities, Ty.zero, Ty.kind, Ty.args]
        obtain ⟨c1, c2, c3, c4⟩ := ih Y _ g (by omega) eY hok' hty'
        rw [argsOf_fun, res_fun, List.map_cons]
        have e : appTm f (X.dflt :: Y.argsOf.map Ty.dflt) = appTm (.mk 3 0 .zero [f, X.dflt]) (Y.argsOf.map Ty.dflt) := rfl
        rw [e]
        refine ⟨c1, c2, ?_, ?_⟩
        · simp only [Tm.size, sizeAllT] at c3
          simp only [Ty.nodes, nodesAll]; omega
        · have hz : (Tm.mk 3 0 .zero [f, X.dflt]).bulk = f.bulk + X.dflt.bulk + 2 := by simp only [Tm.bulk, bulkAll, Ty.zero, Ty.nodes, nodesAll]; omega
          simp only [Ty.nodes, nodesAll]; omega
    · obtain ⟨e1, e2⟩ := argsOf_other (err_zero.1 he).1 h4
      rw [e1, e2]
      refine ⟨hok, hty, ?_, ?_⟩
      · show f.size ≤ _; omega
      · show f.bulk ≤ _; omega

theorem args_facts (n : Nat) : ∀ U : Ty, U.nodes ≤ n → U.err = 0 → (∀ T ∈ U.argsOf, T.err = 0) ∧ nodesAll U.argsOf + U.argsOf.length ≤ U.nodes ∧ U.res.err = 0 := by
  induction n with
  | zero => intro U h; have := nodes_pos U; omega
  | succ n ih =>
    intro U hn he
    by_cases h4 : U.kind = 4
    · rcases Ty.ok_cases (err_zero.1 he).1 with ⟨k, hk, rfl⟩ | ⟨k, X, Y, hk, rfl, hX, hY⟩
      · simp only [Ty.kind] at h4; omega
      · have h4 : k = 4 := h4
        subst h4
        obtain ⟨eX, eY⟩ := err_parts he
        simp only [Ty.nodes, nodesAll] at hn
        obtain ⟨c1, c2, c3⟩ := ih Y (by omega) eY
        rw [argsOf_fun, res_fun]
        refine ⟨fun T hT => ?_, ?_, c3⟩
        · simp at hT
          rcases hT with rfl | hT
          · exact eX
          · exact c1 T hT
        · simp only [nodesAll, List.length_cons, Ty.nodes]; omega
    · obtain ⟨e1, e2⟩ := argsOf_other (err_zero.1 he).1 h4
      rw [e1, e2]
      exact ⟨fun T hT => by simp at hT, by simp [nodesAll], he⟩
theorem dfltAll_facts : ∀ l : List Ty, (∀ T ∈ l, T.err = 0) → sizeAllT (l.map Ty.dflt) ≤ nodesAll l ∧ bulkAll (l.map Ty.dflt) ≤ 2 * nodesAll l ∧ ∀ t ∈ l.map Ty.dflt, t.err = 0
  | [], _ => ⟨by simp [sizeAllT], by simp [bulkAll], fun t h => by simp at h⟩
  | T :: r, h => by
    obtain ⟨h1, h2, h3⟩ := dfltAll_facts r (fun T hT => h T (by simp [hT]))
    have hT := h T (by simp)
    obtain ⟨a1, a2, a3, _⟩ := dflt_facts _ T (Nat.le_refl _) hT
    have h64 := err_small hT
    refine ⟨by simp only [List.map_cons, sizeAllT, nodesAll]; omega, by simp only [List.map_cons, bulkAll, nodesAll]; omega, fun t ht => ?_⟩
    simp at ht
    rcases ht with rfl | ⟨T', hT', rfl⟩
    · exact errT_zero.2 ⟨a1, by omega⟩
    · exact h3 _ (by simp; exact ⟨T', hT', rfl⟩)
theorem errsT_all : ∀ {l : List Tm}, (∀ t ∈ l, t.err = 0) → errsT l = 0
  | [], _ => rfl
  | t :: r, h => by
    simp only [errsT]
    rw [if_pos (h t (by simp))]
    exact errsT_all fun u hu => h u (by simp [hu])
end Go.Proofs.YtajdekakegeidaaDoor
