/- What TypeOf must return. -/
import Derived.Test.YtifijgihcincfaaDoorNodeType
namespace Go.Proofs.YtifijgihcincfaaDoor
open Go.RowKit

mutual
/-- The type of a term in a context, or the error. -/
def Tm.typ : Tm → List Ty → Except Int Ty
  | .mk k i T l, g => if k = 1 then (if h : i.toNat < g.length then .ok (g[g.length - 1 - i.toNat]'(by omega)) else .error 6)
      else match typAll l (if k = 2 then g ++ [T] else g) with
        | .error e => .error e
        | .ok ps => nodeTy k T ps
def typAll : List Tm → List Ty → Except Int (List Ty)
  | [], _ => .ok []
  | t :: r, g => match t.typ g with
    | .error e => .error e
    | .ok u => match typAll r g with
      | .error e => .error e
      | .ok us => .ok (u :: us)
end

theorem typAll_snoc : ∀ {l : List Tm} {t : Tm} {g ps : List Ty} {u : Ty}, typAll l g = .ok ps → t.typ g = .ok u → typAll (l ++ [t]) g = .ok (ps ++ [u])
  | [], t, g, ps, u, h, hu => by
    simp only [typAll, Except.ok.injEq] at h
    subst h
    simp [typAll, hu]
  | x :: r, t, g, ps, u, h, hu => by
    simp only [typAll, List.cons_append] at h ⊢
    cases hx : x.typ g with
    | error e => rw [hx] at h; cases h
    | ok y =>
      rw [hx] at h
      simp only at h ⊢
      cases hr : typAll r g with
      | error e => rw [hr] at h; cases h
      | ok us =>
        rw [hr] at h
        simp only [Except.ok.injEq] at h
        subst h
        rw [typAll_snoc hr hu]
        rfl
theorem typAll_stop : ∀ {l m : List Tm} {t : Tm} {g ps : List Ty} {e : Int}, typAll l g = .ok ps → t.typ g = .error e → typAll (l ++ t :: m) g = .error e
  | [], m, t, g, ps, e, h, hu => by simp [typAll, hu]
  | x :: r, m, t, g, ps, e, h, hu => by
    simp only [typAll, List.cons_append] at h ⊢
    cases hx : x.typ g with
    | error e => rw [hx] at h; cases h
    | ok y =>
      rw [hx] at h
      simp only at h ⊢
      cases hr : typAll r g with
      | error e => rw [hr] at h; cases h
      | ok us =>
        rw [typAll_stop hr hu]
theorem typAll_len : ∀ {l : List Tm} {g ps : List Ty}, typAll l g = .ok ps → ps.length = l.length
  | [], g, ps, h => by simp only [typAll, Except.ok.injEq] at h; subst h; rfl
  | x :: r, g, ps, h => by
    simp only [typAll] at h
    cases hx : x.typ g with
    | error e => rw [hx] at h; cases h
    | ok y =>
      rw [hx] at h
      simp only at h
      cases hr : typAll r g with
      | error e => rw [hr] at h; cases h
      | ok us =>
        rw [hr] at h
        simp only [Except.ok.injEq] at h
        subst h
        simp [typAll_len hr]

/-- What formed says of the kinds. -/
theorem formed_kind {t : Tm} (h : t.formed = true) : 1 ≤ t.kind ∧ t.kind ≤ 13 ∧ t.args.length = arities.getD t.kind.toNat 0 ∧ 0 ≤ t.index ∧ (t.kind = 1 ∨ t.index = 0) ∧
    ((t.kind = 2 ∨ t.kind = 6 ∨ t.kind = 9) → t.type.err = 0) ∧ (¬ (t.kind = 2 ∨ t.kind = 6 ∨ t.kind = 9) → t.type.kind = 0 ∧ t.type.args.length = 0) := by
  simp only [Tm.formed, Bool.and_eq_true, decide_eq_true_eq, beq_iff_eq, Bool.or_eq_true] at h
  obtain ⟨⟨⟨⟨⟨h1, h2⟩, h3⟩, h4⟩, h5⟩, h6⟩ := h
  refine ⟨h1, h2, h3, h4, h5, fun hk => ?_, fun hk => ?_⟩
  · rw [if_pos hk] at h6; simpa using h6
  · rw [if_neg hk] at h6; simpa using h6

theorem err_small {T : Ty} (h : T.err = 0) : T.nodes ≤ 64 := (err_zero.1 h).2
theorem nodeTy_err {k : Int} {T : Ty} {ps : List Ty} {U : Ty} (hT : (k = 2 ∨ k = 6 ∨ k = 9) → T.err = 0) (hk : 2 ≤ k ∧ k ≤ 13) (hl : ps.length = arities.getD k.toNat 0) (hp : ∀ p ∈ ps, p.err = 0) (h : nodeTy k T ps = .ok U) : U.err = 0 := by
  unfold nodeTy at h
  by_cases h2 : k = 2
  · subst h2
    rw [if_pos rfl] at h
    match ps, hl, hp, h with
    | [b], _, hp, h =>
      simp only at h
      split at h
      · rename_i hn
        cases h
        have hb := err_zero.1 (hp b (by simp))
        have ht := err_zero.1 (hT (.inl rfl))
        exact err_zero.2 ⟨by simp [tyFun, Ty.ok, okAll, hb.1, ht.1], hn⟩
      · cases h
  rw [if_neg h2] at h
  by_cases h3 : k = 3
  · subst h3
    rw [if_pos rfl] at h
    match ps, hl, hp, h with
    | [f, a], _, hp, h =>
      have hf := err_zero.1 (hp f (by simp))
      rcases Ty.ok_cases hf.1 with ⟨kk, hkk, rfl⟩ | ⟨kk, X, Y, hkk, rfl, hX, hY⟩
      · simp at h
      · by_cases e4 : kk = 4
        · subst e4
          simp only at h
          split at h
          · cases h
            have := hf.2
            simp only [Ty.nodes, nodesAll] at this
            exact err_zero.2 ⟨hY, by omega⟩
          · cases h
        · simp [e4] at h
  rw [if_neg h3] at h
  by_cases h10 : k = 10
  · subst h10
    rw [if_pos rfl] at h
    match ps, hl, hp, h with
    | [a, b], _, hp, h =>
      split at h
      · rename_i hn
        cases h
        have ha := err_zero.1 (hp a (by simp))
        have hb := err_zero.1 (hp b (by simp))
        exact err_zero.2 ⟨by simp [Ty.ok, okAll, ha.1, hb.1], hn⟩
      · cases h
  rw [if_neg h10] at h
  by_cases h11 : k = 11
  · subst h11
    rw [if_pos rfl] at h
    match ps, hl, hp, h with
    | [f], _, hp, h =>
      have hf := err_zero.1 (hp f (by simp))
      rcases Ty.ok_cases hf.1 with ⟨kk, hkk, rfl⟩ | ⟨kk, X, Y, hkk, rfl, hX, hY⟩
      · simp at h
      · by_cases e4 : kk = 3
        · subst e4
          simp only at h
          cases h
          have := hf.2
          simp only [Ty.nodes, nodesAll] at this
          exact err_zero.2 ⟨hX, by omega⟩
        · simp [e4] at h
  rw [if_neg h11] at h
  by_cases h12 : k = 12
  · subst h12
    rw [if_pos rfl] at h
    match ps, hl, hp, h with
    | [f], _, hp, h =>
      have hf := err_zero.1 (hp f (by simp))
      rcases Ty.ok_cases hf.1 with ⟨kk, hkk, rfl⟩ | ⟨kk, X, Y, hkk, rfl, hX, hY⟩
      · simp at h
      · by_cases e4 : kk = 3
        · subst e4
          simp only at h
          cases h
          have := hf.2
          simp only [Ty.nodes, nodesAll] at this
          exact err_zero.2 ⟨hY, by omega⟩
        · simp [e4] at h
  rw [if_neg h12] at h
  split at h
  · cases h
    unfold ownTy
    split
    · decide
    · split
      · decide
      · split
        · decide
        · exact hT (by omega)
  · cases h

mutual
theorem typ_err : ∀ (t : Tm) (g : List Ty) {U : Ty}, t.ok = true → (∀ T ∈ g, T.err = 0) → t.typ g = .ok U → U.err = 0
  | .mk k i T l, g, U, hok, hg, h => by
    rw [Tm.ok, Bool.and_eq_true] at hok
    obtain ⟨f1, f2, f3, f4, f5, f6, f7⟩ := formed_kind hok.1
    simp only [Tm.kind, Tm.index, Tm.type, Tm.args] at f1 f2 f3 f4 f5 f6 f7
    unfold Tm.typ at h
    by_cases h1 : k = 1
    · rw [if_pos h1] at h
      split at h
      · cases h
        exact hg _ (List.getElem_mem _)
      · cases h
    · rw [if_neg h1] at h
      have hg' : ∀ T' ∈ (if k = 2 then g ++ [T] else g), T'.err = 0 := by
        intro T' hT'
        by_cases h2 : k = 2
        · rw [if_pos h2] at hT'
          rcases List.mem_append.1 hT' with h3 | h3
          · exact hg _ h3
          · simp at h3; subst h3; exact f6 (.inl h2)
        · rw [if_neg h2] at hT'; exact hg _ hT'
      generalize hgg : (if k = 2 then g ++ [T] else g) = g' at h hg'
      cases hps : typAll l g' with
      | error e => rw [hps] at h; cases h
      | ok ps =>
        rw [hps] at h
        exact nodeTy_err f6 (by omega) (by rw [typAll_len hps]; exact f3) (typAll_err l g' hok.2 hg' hps) h
theorem typAll_err : ∀ (l : List Tm) (g : List Ty) {ps : List Ty}, okAllT l = true → (∀ T ∈ g, T.err = 0) → typAll l g = .ok ps → ∀ p ∈ ps, p.err = 0
  | [], g, ps, _, _, h => by simp only [typAll, Except.ok.injEq] at h; subst h; intro p hp; simp at hp
  | t :: r, g, ps, hok, hg, h => by
    simp only [okAllT, Bool.and_eq_true] at hok
    simp only [typAll] at h
    cases hx : t.typ g with
    | error e => rw [hx] at h; cases h
    | ok y =>
      rw [hx] at h
      simp only at h
      cases hr : typAll r g with
      | error e => rw [hr] at h; cases h
      | ok us =>
        rw [hr] at h
        simp only [Except.ok.injEq] at h
        subst h
        intro p hp
        simp at hp
        rcases hp with rfl | hp
        · exact typ_err t g hok.1 hg hx
        · exact typAll_err r g hok.2 hg hr p hp
end

theorem nodeTy_code {k : Int} {T : Ty} {ps : List Ty} {e : Int} (h : nodeTy k T ps = .error e) : e = 4 ∨ e = 6 ∨ e = 7 := by
  unfold nodeTy at h
  split at h
  · split at h
    · split at h <;> cases h
      simp
    · cases h; simp
  split at h
  · split at h
    · split at h <;> cases h
      simp
    · cases h; simp
  split at h
  · split at h <;> cases h
    simp
  split at h
  · split at h <;> cases h
    simp
  split at h
  · split at h <;> cases h
    simp
  split at h <;> cases h
  simp
mutual
theorem typ_code : ∀ (t : Tm) (g : List Ty) {e : Int}, t.typ g = .error e → e = 4 ∨ e = 6 ∨ e = 7
  | .mk k i T l, g, e, h => by
    unfold Tm.typ at h
    split at h
    · split at h <;> cases h
      simp
    · generalize (if k = 2 then g ++ [T] else g) = g' at h
      cases hps : typAll l g' with
      | error x => rw [hps] at h; cases h; exact typAll_code l g' hps
      | ok ps => rw [hps] at h; exact nodeTy_code h
theorem typAll_code : ∀ (l : List Tm) (g : List Ty) {e : Int}, typAll l g = .error e → e = 4 ∨ e = 6 ∨ e = 7
  | [], g, e, h => by simp [typAll] at h
  | t :: r, g, e, h => by
    simp only [typAll] at h
    cases hx : t.typ g with
    | error x => rw [hx] at h; cases h; exact typ_code t g hx
    | ok y =>
      rw [hx] at h
      simp only at h
      cases hr : typAll r g with
      | error x => rw [hr] at h; cases h; exact typAll_code r g hr
      | ok us => rw [hr] at h; cases h
end
theorem typ_node {k i : Int} {T : Ty} {l : List Tm} {g g' ps : List Ty} (hk : k ≠ 1) (hg : g' = if k = 2 then g ++ [T] else g) (h : typAll l g' = .ok ps) : (Tm.mk k i T l).typ g = nodeTy k T ps := by
  unfold Tm.typ
  rw [if_neg hk, ← hg, h]
theorem typ_stop {k i : Int} {T : Ty} {l : List Tm} {g g' : List Ty} {e : Int} (hk : k ≠ 1) (hg : g' = if k = 2 then g ++ [T] else g) (h : typAll l g' = .error e) : (Tm.mk k i T l).typ g = .error e := by
  unfold Tm.typ
  rw [if_neg hk, ← hg, h]

theorem nodesAll_err : ∀ {ps : List Ty}, (∀ p ∈ ps, p.err = 0) → nodesAll ps ≤ 64 * ps.length
  | [], _ => by simp [nodesAll]
  | p :: r, h => by
    have h1 := err_small (h p (by simp))
    have h2 := nodesAll_err (ps := r) (fun q hq => h q (by simp [hq]))
    simp only [nodesAll, List.length_cons]
    omega

end Go.Proofs.YtifijgihcincfaaDoor
