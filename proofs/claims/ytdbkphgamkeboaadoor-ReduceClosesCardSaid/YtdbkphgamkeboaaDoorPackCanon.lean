/- What the laws on normal forms share. -/
import Derived.Test.YtdbkphgamkeboaaDoorPackFin
import Derived.Test.YtdbkphgamkeboaaDoorPackWalk
import Derived.Test.YtdbkphgamkeboaaDoorPackRed
import Derived.Test.YtdbkphgamkeboaaDoorMade
import Derived.Test.YtdbkphgamkeboaaDoorPackBec
import Derived.Deep.LoopGhost
import Derived.Deep.RegionHeld3
namespace Go.Proofs.YtdbkphgamkeboaaDoor
open Go.RowKit

theorem made_low6 {G : List Ty} {t : Ty} {a p : Nat} {T : Tm} (h : Made G t a p T) (hG : G.length ≤ 1000) (ha : a ≤ 4096) : T.low 1000000 = true :=
  low_mono (by have := h.size; omega) T (typ_low T G h.ok h.typ)
theorem made_err6 {G : List Ty} {t : Ty} {a p : Nat} {T : Tm} (h : Made G t a p T) (ha : a ≤ 4096) : T.err = 0 := errT_zero.2 ⟨h.ok, by have := h.size; omega⟩
/-- A term that is normal after m steps: what Normal returns for other limits. -/
theorem normal_again {x u : Tm} {m lim : Nat} (hs : Steps 0 (fun _ => false) m x u) (hu : u.next = none) {S : Nat → Prop} {w w' : World} {e : Ending} (h : NormalR S lim x w e w') :
    Below w.heap.size w w' ∧ ((m ≤ lim ∧ ∃ v', e = .returned (.tuple #[v', .int .i64 m, .int .i64 0]) ∧ IsTm (fun b => (S b ∨ w.heap.size ≤ b) ∧ b < w'.heap.size) w' u v') ∨
      (lim < m ∧ e = .returned (.tuple #[.agg #[.int .i64 0, .int .i64 0, .int .i64 0, .slice none 0 0, .slice none 0 0], .int .i64 0, .int .i64 5]))) := by
  obtain ⟨hb, h⟩ := h
  refine ⟨hb, ?_⟩
  rcases h with ⟨u2, m2, v', rfl, ht, hE⟩ | ⟨u2, m2, er, her, rfl, hE⟩
  · rcases hE.unique hs hu with ⟨_, rfl, rfl⟩ | ⟨h, _⟩
    · exact .inl ⟨hE.2.1, v', rfl, ht⟩
    · exact absurd h (by decide)
  · rcases hE.unique hs hu with ⟨h, _⟩ | ⟨rfl, _, hl⟩
    · rcases her with e | e <;> rw [e] at h <;> exact absurd h (by decide)
    · exact .inr ⟨hl, rfl⟩
theorem Ends.done {B lim n : Nat} {t u : Tm} (h : Ends B (fun _ => false) lim n t u 0) : u.next = none := by
  rcases h.2.2 with ⟨_, h | h⟩ | ⟨_, h | h⟩
  · exact h
  · cases h
  · exact absurd h.1 (by decide)
  · exact absurd h.1 (by decide)

end Go.Proofs.YtdbkphgamkeboaaDoor
namespace Go.Proofs.YtdbkphgamkeboaaDoor
open Go.RowKit

theorem typAll_one {a : Tm} {G ps : List Ty} (h : typAll [a] G = .ok ps) : ∃ A, a.typ G = .ok A ∧ ps = [A] := by
  simp only [typAll] at h
  cases ha : a.typ G with
  | error e => rw [ha] at h; cases h
  | ok A => rw [ha] at h; simp only [Except.ok.injEq] at h; exact ⟨A, rfl, h.symm⟩
theorem typAll_cons {a : Tm} {r : List Tm} {G ps : List Ty} (h : typAll (a :: r) G = .ok ps) : ∃ A qs, a.typ G = .ok A ∧ typAll r G = .ok qs ∧ ps = A :: qs := by
  simp only [typAll] at h
  cases ha : a.typ G with
  | error e => rw [ha] at h; cases h
  | ok A =>
    rw [ha] at h
    simp only at h
    cases hr : typAll r G with
    | error e => rw [hr] at h; cases h
    | ok qs => rw [hr] at h; simp only [Except.ok.injEq] at h; exact ⟨A, qs, rfl, rfl, h.symm⟩
theorem typAll_two {a b : Tm} {G ps : List Ty} (h : typAll [a, b] G = .ok ps) : ∃ A B, a.typ G = .ok A ∧ b.typ G = .ok B ∧ ps = [A, B] := by
  obtain ⟨A, qs, h1, h2, rfl⟩ := typAll_cons h
  obtain ⟨B, h3, rfl⟩ := typAll_one h2
  exact ⟨A, B, h1, h3, rfl⟩
theorem typAll_three {a b c : Tm} {G ps : List Ty} (h : typAll [a, b, c] G = .ok ps) : ∃ A B C, a.typ G = .ok A ∧ b.typ G = .ok B ∧ c.typ G = .ok C ∧ ps = [A, B, C] := by
  obtain ⟨A, qs, h1, h2, rfl⟩ := typAll_cons h
  obtain ⟨B, C, h3, h4, rfl⟩ := typAll_two h2
  exact ⟨A, B, C, h1, h3, h4, rfl⟩
theorem typ_inv {k i : Int} {T : Ty} {l : List Tm} {G : List Ty} {U : Ty} (hk : k ≠ 1) (h : (Tm.mk k i T l).typ G = .ok U) : ∃ ps, typAll l (if k = 2 then G ++ [T] else G) = .ok ps ∧ nodeTy k T ps = .ok U := by
  rw [Tm.typ, if_neg hk] at h
  cases hp : typAll l (if k = 2 then G ++ [T] else G) with
  | error e => rw [hp] at h; cases h
  | ok ps => rw [hp] at h; exact ⟨ps, rfl, h⟩

theorem typ_app {i : Int} {T : Ty} {f a : Tm} {G : List Ty} {U : Ty} (h : (Tm.mk 3 i T [f, a]).typ G = .ok U) : ∃ S, f.typ G = .ok (tyFun S U) ∧ a.typ G = .ok S := by
  obtain ⟨ps, h1, h2⟩ := typ_inv (by decide) h
  obtain ⟨A, B, ha, hb, rfl⟩ := typAll_two h1
  unfold nodeTy at h2
  rw [if_neg (by decide), if_pos rfl] at h2
  split at h2
  · rename_i s u a he
    simp only [List.cons.injEq, and_true] at he
    obtain ⟨rfl, rfl⟩ := he
    split at h2
    · rename_i hs
      simp only [Except.ok.injEq] at h2
      subst h2
      rw [← same_eq hs] at hb
      exact ⟨s, ha, hb⟩
    · cases h2
  · cases h2
theorem app_typed {f a : Tm} {G : List Ty} {S U : Ty} (hf : f.typ G = .ok (tyFun S U)) (ha : a.typ G = .ok S) : (Tm.mk 3 0 .zero [f, a]).typ G = .ok U := by
  rw [typ_node (by decide) rfl (typAll2 hf ha)]; simp [nodeTy, tyFun, same_rfl]
theorem typ_lam {i : Int} {S : Ty} {b : Tm} {G : List Ty} {U : Ty} (h : (Tm.mk 2 i S [b]).typ G = .ok U) : ∃ V, b.typ (G ++ [S]) = .ok V ∧ U = tyFun S V := by
  obtain ⟨ps, h1, h2⟩ := typ_inv (by decide) h
  rw [if_pos rfl] at h1
  obtain ⟨V, hb, rfl⟩ := typAll_one h1
  unfold nodeTy at h2
  rw [if_pos rfl] at h2
  have h2' : (if (tyFun S V).nodes ≤ 64 then Except.ok (tyFun S V) else Except.error 4) = (Except.ok U : Except Int Ty) := h2
  split at h2'
  · simp only [Except.ok.injEq] at h2'; exact ⟨V, hb, h2'.symm⟩
  · cases h2'
theorem typ_pair {i : Int} {T : Ty} {a c : Tm} {G : List Ty} {U : Ty} (h : (Tm.mk 10 i T [a, c]).typ G = .ok U) : ∃ A C, a.typ G = .ok A ∧ c.typ G = .ok C ∧ U = .mk 3 [A, C] := by
  obtain ⟨ps, h1, h2⟩ := typ_inv (by decide) h
  obtain ⟨A, C, ha, hc, rfl⟩ := typAll_two h1
  unfold nodeTy at h2
  rw [if_neg (by decide), if_neg (by decide), if_pos rfl] at h2
  split at h2
  · simp only [Except.ok.injEq] at h2; exact ⟨A, C, ha, hc, h2.symm⟩
  · cases h2
theorem typ_fst {i : Int} {T : Ty} {p : Tm} {G : List Ty} {U : Ty} (h : (Tm.mk 11 i T [p]).typ G = .ok U) : ∃ C, p.typ G = .ok (.mk 3 [U, C]) := by
  obtain ⟨ps, h1, h2⟩ := typ_inv (by decide) h
  obtain ⟨A, ha, rfl⟩ := typAll_one h1
  unfold nodeTy at h2
  rw [if_neg (by decide), if_neg (by decide), if_neg (by decide), if_pos rfl] at h2
  split at h2
  · rename_i a c he
    simp only [List.cons.injEq, and_true] at he
    simp only [Except.ok.injEq] at h2
    subst he h2
    exact ⟨c, ha⟩
  · cases h2
theorem typ_snd {i : Int} {T : Ty} {p : Tm} {G : List Ty} {U : Ty} (h : (Tm.mk 12 i T [p]).typ G = .ok U) : ∃ A, p.typ G = .ok (.mk 3 [A, U]) := by
  obtain ⟨ps, h1, h2⟩ := typ_inv (by decide) h
  obtain ⟨A, ha, rfl⟩ := typAll_one h1
  unfold nodeTy at h2
  rw [if_neg (by decide), if_neg (by decide), if_neg (by decide), if_neg (by decide), if_pos rfl] at h2
  split at h2
  · rename_i a c he
    simp only [List.cons.injEq, and_true] at he
    simp only [Except.ok.injEq] at h2
    subst he h2
    exact ⟨a, ha⟩
  · cases h2
/-- The other kinds: what their parts have, and what they have. -/
theorem typ_other {k i : Int} {T : Ty} {l : List Tm} {G : List Ty} {U : Ty} (h1 : k ≠ 1) (h2 : k ≠ 2) (h3 : k ≠ 3) (h4 : k ≠ 10) (h5 : k ≠ 11) (h6 : k ≠ 12) (h : (Tm.mk k i T l).typ G = .ok U) : typAll l G = .ok (argTys k T) ∧ U = ownTy k T := by
  obtain ⟨ps, hp, hn⟩ := typ_inv h1 h
  rw [if_neg h2] at hp
  unfold nodeTy at hn
  rw [if_neg h2, if_neg h3, if_neg h4, if_neg h5, if_neg h6] at hn
  split at hn
  · rename_i hs
    simp only [Except.ok.injEq] at hn
    rw [← sameAll_eq hs]
    exact ⟨hp, hn.symm⟩
  · cases hn
theorem typ_rec {i : Int} {T : Ty} {b f n : Tm} {G : List Ty} {U : Ty} (h : (Tm.mk 6 i T [b, f, n]).typ G = .ok U) : U = T ∧ b.typ G = .ok T ∧ f.typ G = .ok (tyFun tyNat (tyFun T T)) ∧ n.typ G = .ok tyNat := by
  obtain ⟨h1, h2⟩ := typ_other (by decide) (by decide) (by decide) (by decide) (by decide) (by decide) h
  obtain ⟨A, B, C, ha, hb, hc, he⟩ := typAll_three h1
  have he' : [T, tyFun tyNat (tyFun T T), tyNat] = [A, B, C] := he
  simp only [List.cons.injEq, and_true] at he'
  obtain ⟨rfl, rfl, rfl⟩ := he'
  exact ⟨h2, ha, hb, hc⟩
theorem typ_fold {i : Int} {T : Ty} {b f n : Tm} {G : List Ty} {U : Ty} (h : (Tm.mk 9 i T [b, f, n]).typ G = .ok U) : U = T ∧ b.typ G = .ok T ∧ f.typ G = .ok (tyFun tyNat (tyFun tyList (tyFun T T))) ∧ n.typ G = .ok tyList := by
  obtain ⟨h1, h2⟩ := typ_other (by decide) (by decide) (by decide) (by decide) (by decide) (by decide) h
  obtain ⟨A, B, C, ha, hb, hc, he⟩ := typAll_three h1
  have he' : [T, tyFun tyNat (tyFun tyList (tyFun T T)), tyList] = [A, B, C] := he
  simp only [List.cons.injEq, and_true] at he'
  obtain ⟨rfl, rfl, rfl⟩ := he'
  exact ⟨h2, ha, hb, hc⟩
theorem typ_succ {i : Int} {T : Ty} {n : Tm} {G : List Ty} {U : Ty} (h : (Tm.mk 5 i T [n]).typ G = .ok U) : U = tyNat ∧ n.typ G = .ok tyNat := by
  obtain ⟨h1, h2⟩ := typ_other (by decide) (by decide) (by decide) (by decide) (by decide) (by decide) h
  obtain ⟨A, ha, he⟩ := typAll_one h1
  have he' : [tyNat] = [A] := he
  simp only [List.cons.injEq, and_true] at he'
  subst he'
  exact ⟨h2, ha⟩
theorem typ_cons {i : Int} {T : Ty} {x y : Tm} {G : List Ty} {U : Ty} (h : (Tm.mk 8 i T [x, y]).typ G = .ok U) : U = tyList ∧ x.typ G = .ok tyNat ∧ y.typ G = .ok tyList := by
  obtain ⟨h1, h2⟩ := typ_other (by decide) (by decide) (by decide) (by decide) (by decide) (by decide) h
  obtain ⟨A, B, ha, hb, he⟩ := typAll_two h1
  have he' : [tyNat, tyList] = [A, B] := he
  simp only [List.cons.injEq, and_true] at he'
  obtain ⟨rfl, rfl⟩ := he'
  exact ⟨h2, ha, hb⟩
theorem other_typed {k i : Int} {T : Ty} {l : List Tm} {G : List Ty} (h1 : k ≠ 1) (h2 : k ≠ 2) (h3 : k ≠ 3) (h4 : k ≠ 10) (h5 : k ≠ 11) (h6 : k ≠ 12) (h : typAll l G = .ok (argTys k T)) : (Tm.mk k i T l).typ G = .ok (ownTy k T) := by
  rw [typ_node h1 (by rw [if_neg h2]) h]
  have hs : ∀ m : List Ty, sameAll m m = true := fun m => by induction m with
    | nil => rfl
    | cons a r ih => simp [sameAll, same_rfl, ih]
  unfold nodeTy
  rw [if_neg h2, if_neg h3, if_neg h4, if_neg h5, if_neg h6, if_pos (hs _)]

/-- A redex keeps its type. -/
theorem Red.typ {t u : Tm} (h : Red t u) {G : List Ty} {U : Ty} (ho : t.ok = true) (ht : t.typ G = .ok U) : u.typ G = .ok U := by
  cases h with
  | app i T j V b a =>
    obtain ⟨S, h1, h2⟩ := typ_app ht
    obtain ⟨W, h3, h4⟩ := typ_lam h1
    simp only [tyFun, Ty.mk.injEq, List.cons.injEq, and_true, true_and] at h4
    obtain ⟨rfl, rfl⟩ := h4
    have hb := ok_arg (ok_arg ho (a := .mk 2 j S [b]) (by simp)) (a := b) (by simp)
    have ha := ok_arg ho (a := a) (by simp)
    have := put_typ G S a ha h2 b [] (U := U) hb (by simpa using h3)
    simpa using this
  | zero => exact (typ_rec ht).1 ▸ (typ_rec ht).2.1
  | nil => exact (typ_fold ht).1 ▸ (typ_fold ht).2.1
  | succ i T b f j V n =>
    obtain ⟨rfl, h1, h2, h3⟩ := typ_rec ht
    have h4 := (typ_succ h3).2
    exact app_typed (app_typed h2 h4) (other_typed (k := 6) (T := U) (by decide) (by decide) (by decide) (by decide) (by decide) (by decide) (typAll3 h1 h2 h4))
  | cons i T b f j V x y =>
    obtain ⟨rfl, h1, h2, h3⟩ := typ_fold ht
    have h4 := (typ_cons h3).2
    exact app_typed (app_typed (app_typed h2 h4.1) h4.2) (other_typed (k := 9) (T := U) (by decide) (by decide) (by decide) (by decide) (by decide) (by decide) (typAll3 h1 h2 h4.2))
  | fst i T j V a c =>
    obtain ⟨C, h1⟩ := typ_fst ht
    obtain ⟨A, C', h2, _, h4⟩ := typ_pair h1
    simp only [Ty.mk.injEq, List.cons.injEq, and_true, true_and] at h4
    rw [h4.1]; exact h2
  | snd i T j V a c =>
    obtain ⟨A, h1⟩ := typ_snd ht
    obtain ⟨A', C', _, h3, h4⟩ := typ_pair h1
    simp only [Ty.mk.injEq, List.cons.injEq, and_true, true_and] at h4
    rw [h4.2]; exact h3
theorem typAll_set : ∀ {l : List Tm} {G ps : List Ty} {j : Nat} (hj : j < l.length) {u : Tm}, typAll l G = .ok ps → (∀ A, l[j].typ G = .ok A → u.typ G = .ok A) → typAll (l.set j u) G = .ok ps
  | a :: r, G, ps, 0, _, u, h, hu => by
    obtain ⟨A, qs, h1, h2, rfl⟩ := typAll_cons h
    simp only [List.set_cons_zero, typAll, hu A h1, h2]
  | a :: r, G, ps, j + 1, hj, u, h, hu => by
    obtain ⟨A, qs, h1, h2, rfl⟩ := typAll_cons h
    have := typAll_set (l := r) (j := j) (by simpa using hj) h2 (by simpa using hu)
    simp only [List.set_cons_succ, typAll, h1, this]
theorem Deep.typ {t u : Tm} (h : Deep t u) : ∀ {G : List Ty} {U : Ty}, t.ok = true → t.typ G = .ok U → u.typ G = .ok U := by
  induction h with
  | here h => intro G U ho ht; exact h.typ ho ht
  | arg k i T l j hj u h ih =>
    intro G U ho ht
    by_cases hk : k = 1
    · subst hk
      have hl := ok_len ho
      have hl : l.length = 0 := hl
      omega
    · obtain ⟨ps, h1, h2⟩ := typ_inv hk ht
      rw [typ_node hk rfl (typAll_set hj h1 fun A hA => ih (ok_arg ho (List.getElem_mem hj)) hA)]
      exact h2
theorem Steps.typ {B : Nat} {K : Int → Bool} {G : List Ty} {U : Ty} : ∀ {n : Nat} {t u : Tm}, Steps B K n t u → t.ok = true → t.typ G = .ok U → u.typ G = .ok U
  | 0, t, u, h, _, ht => by
    have e : t = u := h
    exact e ▸ ht
  | n + 1, t, u, h, ho, ht => by
    obtain ⟨v, h1, _, h3, _⟩ := h
    exact (next_deep v (h1.ok ho) h3).typ (h1.ok ho) (h1.typ ho ht)
end Go.Proofs.YtdbkphgamkeboaaDoor
namespace Go.Proofs.YtdbkphgamkeboaaDoor
open Go.RowKit

/-- A term begins as its type says: numbers and lists to their ends, pairs in both parts. -/
inductive Canon : Tm → Ty → Prop
  | zero (i : Int) (T : Ty) : Canon (.mk 4 i T []) tyNat
  | succ (i : Int) (T : Ty) (n : Tm) (h : Canon n tyNat) : Canon (.mk 5 i T [n]) tyNat
  | nil (i : Int) (T : Ty) : Canon (.mk 7 i T []) tyList
  | cons (i : Int) (T : Ty) (x y : Tm) (h : Canon x tyNat) (k : Canon y tyList) : Canon (.mk 8 i T [x, y]) tyList
  | unit (i : Int) (T : Ty) : Canon (.mk 13 i T []) tyUnit
  | pair (i : Int) (T : Ty) (a c : Tm) (A C : Ty) (h : Canon a A) (k : Canon c C) : Canon (.mk 10 i T [a, c]) (.mk 3 [A, C])
  | lam (i : Int) (S : Ty) (b : Tm) (V : Ty) : Canon (.mk 2 i S [b]) (tyFun S V)

theorem Canon.nat {t : Tm} (h : Canon t tyNat) : t.kind = 4 ∨ t.kind = 5 := by
  generalize hU : tyNat = U at h
  cases h with
  | zero => exact .inl rfl
  | succ => exact .inr rfl
  | nil | cons | unit | pair | lam => cases hU
theorem Canon.list {t : Tm} (h : Canon t tyList) : t.kind = 7 ∨ t.kind = 8 := by
  generalize hU : tyList = U at h
  cases h with
  | nil => exact .inl rfl
  | cons => exact .inr rfl
  | zero | succ | unit | pair | lam => cases hU
theorem Canon.fn {t : Tm} {S U : Ty} (h : Canon t (tyFun S U)) : t.kind = 2 := by
  generalize hU : tyFun S U = V at h
  cases h with
  | lam => rfl
  | zero | succ | unit | pair | nil | cons => cases hU
theorem Canon.two {t : Tm} {A C : Ty} (h : Canon t (.mk 3 [A, C])) : t.kind = 10 := by
  generalize hU : (Ty.mk 3 [A, C]) = V at h
  cases h with
  | pair => rfl
  | zero | succ | unit | lam | nil | cons => cases hU

theorem next_parts {k i : Int} {T : Ty} {l : List Tm} (h : (Tm.mk k i T l).next = none) : redexOf k l = false ∧ ∀ j (hj : j < l.length), l[j].next = none := by
  rw [next_mk] at h
  split at h
  · cases h
  · rename_i hr
    refine ⟨by simpa using hr, nextAll_normal ?_⟩
    cases hn : nextAll l with
    | none => rfl
    | some m => rw [hn] at h; cases h

theorem progress (N : Nat) : ∀ (t : Tm) {U : Ty}, t.size ≤ N → t.ok = true → t.typ [] = .ok U → t.next = none → Canon t U := by
  induction N with
  | zero => intro t U hN; cases t; simp only [Tm.size] at hN; omega
  | succ N ih =>
    rintro ⟨k, i, T, l⟩ U hN hok ht hn
    have hf := hok
    rw [Tm.ok, Bool.and_eq_true] at hf
    obtain ⟨k1, k2, _⟩ := formed_kind hf.1
    simp only [Tm.kind] at k1 k2
    have hlen := ok_len hok
    obtain ⟨hr, hns⟩ := next_parts hn
    simp only [Tm.size] at hN
    have sub : ∀ (a : Tm), a ∈ l → ∀ {V : Ty}, a.typ [] = .ok V → Canon a V := fun a ha V hV => by
      obtain ⟨j, hj, rfl⟩ := List.mem_iff_getElem.1 ha
      have := sizeAllT_get l j hj
      exact ih l[j] (by omega) (ok_arg hok ha) hV (hns j hj)
    obtain ⟨kn, rfl⟩ : ∃ kn : Nat, k = kn := ⟨k.toNat, by omega⟩
    have h1 : 1 ≤ kn := by omega
    have h2 : kn ≤ 13 := by omega
    rw [Int.toNat_natCast] at hlen
    clear k1 k2 hn hf hns
    rcases (by omega : kn = 1 ∨ kn = 2 ∨ kn = 3 ∨ kn = 4 ∨ kn = 5 ∨ kn = 6 ∨ kn = 7 ∨ kn = 8 ∨ kn = 9 ∨ kn = 10 ∨ kn = 11 ∨ kn = 12 ∨ kn = 13) with rfl | rfl | rfl | rfl | rfl | rfl | rfl | rfl | rfl | rfl | rfl | rfl | rfl
    · rw [Tm.typ, if_pos (by decide)] at ht
      split at ht
      · rename_i h; simp at h
      · cases ht
    · obtain ⟨b, rfl⟩ := len1 hlen
      obtain ⟨V, _, rfl⟩ := typ_lam ht
      exact .lam i T b V
    · obtain ⟨f, a, rfl⟩ := len2 hlen
      obtain ⟨S, hf, _⟩ := typ_app ht
      have := (sub f (by simp) hf).fn
      simp [redexOf, this] at hr
    · obtain rfl := len0 hlen
      have := (typ_other (by decide) (by decide) (by decide) (by decide) (by decide) (by decide) ht).2
      rw [this]
      exact .zero i T
    · obtain ⟨n, rfl⟩ := len1 hlen
      obtain ⟨rfl, h⟩ := typ_succ ht
      exact .succ i T n (sub n (by simp) h)
    · obtain ⟨b, f, n, rfl⟩ := len3 hlen
      obtain ⟨_, _, _, h⟩ := typ_rec ht
      have := (sub n (by simp) h).nat
      rcases this with h | h <;> simp [redexOf, h] at hr
    · obtain rfl := len0 hlen
      have := (typ_other (by decide) (by decide) (by decide) (by decide) (by decide) (by decide) ht).2
      rw [this]
      exact .nil i T
    · obtain ⟨x, y, rfl⟩ := len2 hlen
      obtain ⟨rfl, h, h'⟩ := typ_cons ht
      exact .cons i T x y (sub x (by simp) h) (sub y (by simp) h')
    · obtain ⟨b, f, n, rfl⟩ := len3 hlen
      obtain ⟨_, _, _, h⟩ := typ_fold ht
      have := (sub n (by simp) h).list
      rcases this with h | h <;> simp [redexOf, h] at hr
    · obtain ⟨a, c, rfl⟩ := len2 hlen
      obtain ⟨A, C, h, h', rfl⟩ := typ_pair ht
      exact .pair i T a c A C (sub a (by simp) h) (sub c (by simp) h')
    · obtain ⟨p, rfl⟩ := len1 hlen
      obtain ⟨C, h⟩ := typ_fst ht
      have := (sub p (by simp) h).two
      simp [redexOf, this] at hr
    · obtain ⟨p, rfl⟩ := len1 hlen
      obtain ⟨A, h⟩ := typ_snd ht
      have := (sub p (by simp) h).two
      simp [redexOf, this] at hr
    · obtain rfl := len0 hlen
      have := (typ_other (by decide) (by decide) (by decide) (by decide) (by decide) (by decide) ht).2
      rw [this]
      exact .unit i T
end Go.Proofs.YtdbkphgamkeboaaDoor
namespace Go.Proofs.YtdbkphgamkeboaaDoor
open Go.RowKit

def CanR (w : World) (e : Ending) (w' : World) : Prop := e = .returned (.bool true) ∧ Below w.heap.size w w'
theorem Canon.succ_form {t : Tm} (h : Canon t tyNat) (hk : t.kind = 5) : ∃ i T n, t = .mk 5 i T [n] ∧ Canon n tyNat := by
  generalize hU : tyNat = U at h
  cases h with
  | succ i T n h => exact ⟨i, T, n, rfl, by rw [hU]; exact h⟩
  | zero => exact absurd hk (by simp [Tm.kind])
  | nil | cons | unit | pair | lam => cases hU
theorem Canon.cons_form {t : Tm} (h : Canon t tyList) (hk : t.kind = 8) : ∃ i T x y, t = .mk 8 i T [x, y] ∧ Canon x tyNat ∧ Canon y tyList := by
  generalize hU : tyList = U at h
  cases h with
  | cons i T x y h k => exact ⟨i, T, x, y, rfl, h, by rw [hU]; exact k⟩
  | nil => exact absurd hk (by simp [Tm.kind])
  | zero | succ | unit | pair | lam => cases hU

/-- How the loop over a number or a list stands: the term at hand, in the call's own block. -/
def ChainAt (w : World) (U : Ty) (k : Nat) (wr : World) : Prop :=
  ∃ (u : Tm) (B A : Option Addr) (d c : Nat), Canon u U ∧ u.size ≤ k ∧ Blk wr w.heap.size 34 #[.int .i64 u.kind, .int .i64 u.index, .int .i64 u.type.kind, .slice B u.type.args.length d, .slice A u.args.length c] ∧
    IsTm (· < w.heap.size) wr u (.agg #[.int .i64 u.kind, .int .i64 u.index, .int .i64 u.type.kind, .slice B u.type.args.length d, .slice A u.args.length c]) ∧ Below w.heap.size w wr ∧ w.heap.size + 2 ≤ wr.heap.size
theorem chain_step {w wr : World} {U : Ty} {k : Nat} {x : Tm} {B A : Option Addr} {d c : Nat} {cs : Array Value} (hc : Canon x U) (hs : x.size ≤ k) (hk : Blk wr w.heap.size 34 cs) (hcs : cs.size = 5)
    (hx : IsTm (· < w.heap.size) wr x (.agg #[.int .i64 x.kind, .int .i64 x.index, .int .i64 x.type.kind, .slice B x.type.args.length d, .slice A x.args.length c])) (hb : Below w.heap.size w wr) (hz : w.heap.size + 2 ≤ wr.heap.size) :
    ChainAt w U k (((((wr.setCell ⟨w.heap.size, 0, none⟩ (.int .i64 x.kind)).setCell ⟨w.heap.size, 1, none⟩ (.int .i64 x.index)).setCell ⟨w.heap.size, 2, none⟩ (.int .i64 x.type.kind)).setCell ⟨w.heap.size, 3, none⟩ (.slice B x.type.args.length d)).setCell ⟨w.heap.size, 4, none⟩ (.slice A x.args.length c)) := by
  obtain ⟨l⟩ := cs
  obtain ⟨a0, a1, a2, a3, a4, rfl⟩ : ∃ a0 a1 a2 a3 a4, l = [a0, a1, a2, a3, a4] := by
    match l, hcs with
    | [a0, a1, a2, a3, a4], _ => exact ⟨_, _, _, _, _, rfl⟩
  have hg := only_set5 wr w.heap.size (.int .i64 x.kind) (.int .i64 x.index) (.int .i64 x.type.kind) (.slice B x.type.args.length d) (.slice A x.args.length c)
  refine ⟨x, B, A, d, c, hc, hs, hk.set5 _ _ _ _ _, IsTm.keep (fun _ h => h) (fun p hp => World.cell?_of_block (hg.block p.block ?_ (fun e => ?_))) _ hx, hb.grown hg hb.size (fun k e => by cases e; exact Nat.le_refl _), by have := hg.size; omega⟩
  · have h' : p.block < w.heap.size := hp
    omega
  · have e' : p.block = w.heap.size := by simpa using e
    have h' : p.block < w.heap.size := hp
    omega

set_option maxRecDepth 100000 in
set_option maxHeartbeats 4000000 in
theorem canonical_nat (t : Tm) (v uv : Value) (w : World) (h : Canon t tyNat) (hT : IsTm (· < w.heap.size) w t v) (hU : IsTy (· < w.heap.size) w tyNat uv) :
    Calls Tryd.prog 34 #[v, uv] w (CanR w) := by
  obtain ⟨B, d, A, c, rfl, _⟩ := IsTm.form hT
  obtain ⟨As, cs, rfl⟩ := hU.form
  have HC := Lib.hid h
  have HT := Lib.hid hT
  clear h hT hU
  go_enter Tryd.func34, Tryd.ntmps34
  go_upto_region 1 with fail
  obtain ⟨W, hW, b2, z2, k0, k1⟩ := alloc2_facts w #[.int .i64 t.kind, .int .i64 t.index, .int .i64 t.type.kind, .slice B t.type.args.length d, .slice A t.args.length c] #[.int .i64 tyNat.kind, .slice As tyNat.args.length cs] 34 30
  have hW' : W = (w.alloc (Obj.cells #[.int .i64 t.kind, .int .i64 t.index, .int .i64 t.type.kind, .slice B t.type.args.length d, .slice A t.args.length c] 34)).alloc (Obj.cells #[.int .i64 tyNat.kind, .slice As tyNat.args.length cs] 30) := hW
  try rw [← hW']
  have HP := Lib.hid (show ChainAt w tyNat t.size W from ⟨t, B, A, d, c, HC.out, Nat.le_refl _, k0, IsTm.keep (fun _ h => h) (fun p hp => b2.cell hp) _ HT.out, b2, by omega⟩)
  obtain ⟨p0, p1, _, _⟩ := k1.facts2
  clear hW hW' b2 z2 k0 k1
  go_wp2_with fail
  go_loopg [] t.size (fun k wr => ChainAt w tyNat k wr)
  case atStart => exact HP.out
  case round =>
    obtain ⟨u, B1, A1, d1, c1, hc, hs, hk, hx, hb, hz⟩ := hrel
    obtain ⟨r0, r1, r2, r3, r4, g0, g1, g2, g3, g4⟩ := hk.facts5
    rcases hc.nat with h4 | h5
    · have HB := Lib.hid hb
      rw [h4] at r0
      clear hb hx hk hc
      go_wp2_with fail
      go_ret
      exact ⟨rfl, HB.out⟩
    · obtain ⟨i, T, n, rfl, hn⟩ := hc.succ_form h5
      have hl : TmR.Sl (· < w.heap.size) wr [n] (.slice A1 1 c1) := (isTm_iff.1 hx).2.2.2
      obtain ⟨a, B2, d2, A2, c2, rfl, ha, q0, q1, q2, q3, q4, hxn⟩ := sl_child hl 0 (by simp)
      rw [Nat.zero_mul, add_zero'] at q0 q1 q2 q3 q4
      have hxn : IsTm (· < w.heap.size) wr n (.agg #[.int .i64 n.kind, .int .i64 n.index, .int .i64 n.type.kind, .slice B2 n.type.args.length d2, .slice A2 n.args.length c2]) := hxn
      have q0 : wr.cell? a = some (.int .i64 n.kind) := q0
      have q1 : wr.cell? ⟨a.block, a.off + 1, none⟩ = some (.int .i64 n.index) := q1
      have q2 : wr.cell? ⟨a.block, a.off + 2, none⟩ = some (.int .i64 n.type.kind) := q2
      have q3 : wr.cell? ⟨a.block, a.off + 3, none⟩ = some (.slice B2 n.type.args.length d2) := q3
      have q4 : wr.cell? ⟨a.block, a.off + 4, none⟩ = some (.slice A2 n.args.length c2) := q4
      replace r0 : wr.cell? ⟨w.heap.size, 0, none⟩ = some (.int .i64 5) := r0
      replace r4 : wr.cell? ⟨w.heap.size, 4, none⟩ = some (.slice (some a) 1 c1) := r4
      simp only [Tm.size, sizeAllT] at hs
      have HST := Lib.hid (chain_step (k := n.size) hn (Nat.le_refl _) hk rfl hxn hb hz)
      clear hc hk hx hl hxn hb hz h5
      go_wp2_with fail
      go_roundg n.size
      case rel => exact HST.out
      case measure => omega
end Go.Proofs.YtdbkphgamkeboaaDoor
namespace Go.Proofs.YtdbkphgamkeboaaDoor
open Go.RowKit

set_option maxRecDepth 100000 in
set_option maxHeartbeats 4000000 in
theorem canonical_list (t : Tm) (v uv : Value) (w : World) (h : Canon t tyList) (hT : IsTm (· < w.heap.size) w t v) (hU : IsTy (· < w.heap.size) w tyList uv) :
    Calls Tryd.prog 34 #[v, uv] w (CanR w) := by
  obtain ⟨B, d, A, c, rfl, _⟩ := IsTm.form hT
  obtain ⟨As, cs, rfl⟩ := hU.form
  have HC := Lib.hid h
  have HT := Lib.hid hT
  clear h hT hU
  go_enter Tryd.func34, Tryd.ntmps34
  go_upto_region 1 with fail
  obtain ⟨W, hW, b2, z2, k0, k1⟩ := alloc2_facts w #[.int .i64 t.kind, .int .i64 t.index, .int .i64 t.type.kind, .slice B t.type.args.length d, .slice A t.args.length c] #[.int .i64 tyList.kind, .slice As tyList.args.length cs] 34 30
  have hW' : W = (w.alloc (Obj.cells #[.int .i64 t.kind, .int .i64 t.index, .int .i64 t.type.kind, .slice B t.type.args.length d, .slice A t.args.length c] 34)).alloc (Obj.cells #[.int .i64 tyList.kind, .slice As tyList.args.length cs] 30) := hW
  try rw [← hW']
  have HP := Lib.hid (show ChainAt w tyList t.size W from ⟨t, B, A, d, c, HC.out, Nat.le_refl _, k0, IsTm.keep (fun _ h => h) (fun p hp => b2.cell hp) _ HT.out, b2, by omega⟩)
  obtain ⟨p0, p1, _, _⟩ := k1.facts2
  clear hW hW' b2 z2 k0 k1
  go_wp2_with fail
  go_loopg [] t.size (fun k wr => ChainAt w tyList k wr)
  case atStart => exact HP.out
  case round =>
    obtain ⟨u, B1, A1, d1, c1, hc, hs, hk, hx, hb, hz⟩ := hrel
    obtain ⟨r0, r1, r2, r3, r4, g0, g1, g2, g3, g4⟩ := hk.facts5
    rcases hc.list with h4 | h5
    · have HB := Lib.hid hb
      rw [h4] at r0
      clear hb hx hk hc
      go_wp2_with fail
      go_ret
      exact ⟨rfl, HB.out⟩
    · obtain ⟨i, T, x, y, rfl, hcx, hcy⟩ := hc.cons_form h5
      have hl : TmR.Sl (· < w.heap.size) wr [x, y] (.slice A1 2 c1) := (isTm_iff.1 hx).2.2.2
      obtain ⟨a, B2, d2, A2, c2, rfl, ha, q0, q1, q2, q3, q4, hxn⟩ := sl_child hl 0 (by simp)
      obtain ⟨a', B3, d3, A3, c3, e3, _, s0, s1, s2, s3, s4, hyn⟩ := sl_child hl 1 (by simp)
      have e3 : a' = a := by simpa using e3.symm
      subst e3
      have ha : a'.block < w.heap.size := ha
      rw [Nat.zero_mul, add_zero'] at q0 q1 q2 q3 q4
      rw [Nat.one_mul] at s0 s1 s2 s3 s4
      have hxn : IsTm (· < w.heap.size) wr x (.agg #[.int .i64 x.kind, .int .i64 x.index, .int .i64 x.type.kind, .slice B2 x.type.args.length d2, .slice A2 x.args.length c2]) := hxn
      have hyn : IsTm (· < w.heap.size) wr y (.agg #[.int .i64 y.kind, .int .i64 y.index, .int .i64 y.type.kind, .slice B3 y.type.args.length d3, .slice A3 y.args.length c3]) := hyn
      have q0 : wr.cell? a' = some (.int .i64 x.kind) := q0
      have q1 : wr.cell? ⟨a'.block, a'.off + 1, none⟩ = some (.int .i64 x.index) := q1
      have q2 : wr.cell? ⟨a'.block, a'.off + 2, none⟩ = some (.int .i64 x.type.kind) := q2
      have q3 : wr.cell? ⟨a'.block, a'.off + 3, none⟩ = some (.slice B2 x.type.args.length d2) := q3
      have q4 : wr.cell? ⟨a'.block, a'.off + 4, none⟩ = some (.slice A2 x.args.length c2) := q4
      have s0 : wr.cell? (a'.add 5) = some (.int .i64 y.kind) := s0
      have s1 : wr.cell? ⟨(a'.add 5).block, (a'.add 5).off + 1, none⟩ = some (.int .i64 y.index) := s1
      have s2 : wr.cell? ⟨(a'.add 5).block, (a'.add 5).off + 2, none⟩ = some (.int .i64 y.type.kind) := s2
      have s3 : wr.cell? ⟨(a'.add 5).block, (a'.add 5).off + 3, none⟩ = some (.slice B3 y.type.args.length d3) := s3
      have s4 : wr.cell? ⟨(a'.add 5).block, (a'.add 5).off + 4, none⟩ = some (.slice A3 y.args.length c3) := s4
      have hab : (a'.add 5).block = a'.block := by unfold Addr.add; split <;> rfl
      have hk' : Blk wr w.heap.size 34 #[.int .i64 8, .int .i64 i, .int .i64 T.kind, .slice B1 T.args.length d1, .slice (some a') 2 c1] := hk
      replace r0 : wr.cell? ⟨w.heap.size, 0, none⟩ = some (.int .i64 8) := r0
      simp only [Tm.size, sizeAllT] at hs
      have HCX := Lib.hid (And.intro hcx hcy)
      have HXT := Lib.hid (And.intro hxn hyn)
      have HK := Lib.hid hk'
      have HB := Lib.hid (And.intro hb hz)
      have hzw : w.heap.size < wr.heap.size := by omega
      have HSK := Lib.hid fun (w' : World) (h : Below wr.heap.size wr w') => And.intro (HK.out.below h HK.out.lt).facts5.2.2.2.2.1 (And.intro ((h.cell (by omega)).trans q0) (And.intro ((h.cell (p := ⟨a'.block, a'.off + 1, none⟩) (show a'.block < wr.heap.size by omega)).trans q1) (And.intro ((h.cell (p := ⟨a'.block, a'.off + 2, none⟩) (show a'.block < wr.heap.size by omega)).trans q2) (And.intro ((h.cell (p := ⟨a'.block, a'.off + 3, none⟩) (show a'.block < wr.heap.size by omega)).trans q3) ((h.cell (p := ⟨a'.block, a'.off + 4, none⟩) (show a'.block < wr.heap.size by omega)).trans q4)))))
      have HSY := Lib.hid fun (w' : World) (h : Below wr.heap.size wr w') => And.intro ((h.cell (show (a'.add 5).block < wr.heap.size by rw [hab]; omega)).trans s0) (And.intro ((h.cell (p := ⟨(a'.add 5).block, (a'.add 5).off + 1, none⟩) (show (a'.add 5).block < wr.heap.size by rw [hab]; omega)).trans s1) (And.intro ((h.cell (p := ⟨(a'.add 5).block, (a'.add 5).off + 2, none⟩) (show (a'.add 5).block < wr.heap.size by rw [hab]; omega)).trans s2) (And.intro ((h.cell (p := ⟨(a'.add 5).block, (a'.add 5).off + 3, none⟩) (show (a'.add 5).block < wr.heap.size by rw [hab]; omega)).trans s3) ((h.cell (p := ⟨(a'.add 5).block, (a'.add 5).off + 4, none⟩) (show (a'.add 5).block < wr.heap.size by rw [hab]; omega)).trans s4))))
      clear hc hk hk' hx hl hxn hyn hb hz h5 hcx hcy q0 q1 q2 q3 q4 s0 s1 s2 s3 s4 hab r1 r2 r3 r4
      go_upto_region 8 with fail
      have QD := Lib.hid (show Below wr.heap.size wr wr.drew from (Below.refl _ _).drew)
      obtain ⟨y0, y1, y2, y3, y4, y5⟩ := HSK.out wr (Below.refl _ _)
      go_region_held3 (fun w' => w'.cell? ⟨w.heap.size, 4, none⟩ = some (.slice (some a') 2 c1) ∧ w'.cell? a' = some (.int .i64 x.kind) ∧ w'.cell? ⟨a'.block, a'.off + 1, none⟩ = some (.int .i64 x.index) ∧ w'.cell? ⟨a'.block, a'.off + 2, none⟩ = some (.int .i64 x.type.kind) ∧ w'.cell? ⟨a'.block, a'.off + 3, none⟩ = some (.slice B2 x.type.args.length d2) ∧ w'.cell? ⟨a'.block, a'.off + 4, none⟩ = some (.slice A2 x.args.length c2))
        (first | with_reducible exact HSK.out _ QD.out | with_reducible exact HSK.out _ N5.out | with_reducible exact HSK.out _ C6.out)
        (first
          | (go_at_call 52
             (with_reducible refine (nat_any wr.drew).mono ?_)
             rintro e w5 ⟨rfl, r5⟩
             have N5 := Lib.hid (show Below wr.heap.size wr w5 from QD.out.trans r5)
             clear r5)
          | (go_at_call 34
             have P6 := canonical_nat x (.agg #[.int .i64 x.kind, .int .i64 x.index, .int .i64 x.type.kind, .slice B2 x.type.args.length d2, .slice A2 x.args.length c2]) (.agg #[.int .i64 1, .slice none 0 0]) w5 HCX.out.1 (HXT.out.1.keep (fun b h => by have h' : b < w.heap.size := h; have := N5.out.size; show b < w5.heap.size; omega) (fun p h => N5.out.cell (by have h' : p.block < w.heap.size := h; omega))) (IsTy.leaf _ _ 1)
             (with_reducible refine P6.mono ?_)
             rintro e w6 ⟨rfl, r6⟩
             clear P6
             have C6 := Lib.hid (show Below wr.heap.size wr w6 from N5.out.trans (r6.mono N5.out.size))
             clear r6))
      all_goals
        have hz6 := C6.out.size
        obtain ⟨s0, s1, s2, s3, s4⟩ := HSY.out _ C6.out
        simp [Addr.add] at s0 s1 s2 s3 s4
        obtain ⟨r0, r1, r2, r3, r4, g0, g1, g2, g3, g4⟩ := (HK.out.below C6.out HK.out.lt).facts5
        have HST := Lib.hid (chain_step (k := y.size) HCX.out.2 (Nat.le_refl _) (HK.out.below C6.out HK.out.lt) rfl (HXT.out.2.keep (fun b h => h) (fun p h => C6.out.cell (by have h' : p.block < w.heap.size := h; omega))) (HB.out.1.trans (C6.out.mono (by omega))) (by have := HB.out.2; omega))
        clear y0 y1 y2 y3 y4 y5
        go_wp2_with fail
        go_roundg y.size
        case rel => exact HST.out
        case measure => omega
end Go.Proofs.YtdbkphgamkeboaaDoor
namespace Go.Proofs.YtdbkphgamkeboaaDoor
open Go.RowKit

set_option maxRecDepth 100000 in
set_option maxHeartbeats 4000000 in
theorem canonical_leaf (t : Tm) (U : Ty) (v uv : Value) (w : World) (h : (U.kind = 5 ∧ t.kind = 13) ∨ (U.kind = 4 ∧ t.kind = 2)) (hT : IsTm (· < w.heap.size) w t v) (hU : IsTy (· < w.heap.size) w U uv) :
    Calls Tryd.prog 34 #[v, uv] w (CanR w) := by
  obtain ⟨B, d, A, c, rfl, _⟩ := IsTm.form hT
  obtain ⟨As, cs, rfl⟩ := hU.form
  clear hT hU
  rcases h with ⟨h1, h2⟩ | ⟨h1, h2⟩
  all_goals
    rw [h1, h2]
    clear h1 h2
    go_enter Tryd.func34, Tryd.ntmps34
    go_wp2_with fail
    go_ret
    exact ⟨rfl, ((Below.refl _ _).alloc (Nat.le_refl _) _).alloc (by simp) _⟩

set_option maxRecDepth 100000 in
set_option maxHeartbeats 4000000 in
theorem canonical_pair (i : Int) (T : Ty) (x y : Tm) (X Y : Ty) (v uv : Value) (w : World)
    (ihx : ∀ (v uv : Value) (w : World), IsTm (· < w.heap.size) w x v → IsTy (· < w.heap.size) w X uv → Calls Tryd.prog 34 #[v, uv] w (CanR w))
    (ihy : ∀ (v uv : Value) (w : World), IsTm (· < w.heap.size) w y v → IsTy (· < w.heap.size) w Y uv → Calls Tryd.prog 34 #[v, uv] w (CanR w))
    (hT : IsTm (· < w.heap.size) w (.mk 10 i T [x, y]) v) (hU : IsTy (· < w.heap.size) w (.mk 3 [X, Y]) uv) :
    Calls Tryd.prog 34 #[v, uv] w (CanR w) := by
  obtain ⟨B1, d1, A1, c1, rfl, _, hl⟩ := hT.mk_parts
  obtain ⟨a', B2, d2, A2, c2, rfl, ha, q0, q1, q2, q3, q4, hxn⟩ := sl_child hl 0 (by simp)
  obtain ⟨b', B3, d3, A3, c3, e3, _, s0, s1, s2, s3, s4, hyn⟩ := sl_child hl 1 (by simp)
  have e3 : b' = a' := by simpa using e3.symm
  subst e3
  have ha : b'.block < w.heap.size := ha
  rw [Nat.zero_mul, add_zero'] at q0 q1 q2 q3 q4
  rw [Nat.one_mul] at s0 s1 s2 s3 s4
  have hxn : IsTm (· < w.heap.size) w x (.agg #[.int .i64 x.kind, .int .i64 x.index, .int .i64 x.type.kind, .slice B2 x.type.args.length d2, .slice A2 x.args.length c2]) := hxn
  have hyn : IsTm (· < w.heap.size) w y (.agg #[.int .i64 y.kind, .int .i64 y.index, .int .i64 y.type.kind, .slice B3 y.type.args.length d3, .slice A3 y.args.length c3]) := hyn
  have q0 : w.cell? b' = some (.int .i64 x.kind) := q0
  have q1 : w.cell? ⟨b'.block, b'.off + 1, none⟩ = some (.int .i64 x.index) := q1
  have q2 : w.cell? ⟨b'.block, b'.off + 2, none⟩ = some (.int .i64 x.type.kind) := q2
  have q3 : w.cell? ⟨b'.block, b'.off + 3, none⟩ = some (.slice B2 x.type.args.length d2) := q3
  have q4 : w.cell? ⟨b'.block, b'.off + 4, none⟩ = some (.slice A2 x.args.length c2) := q4
  have s0 : w.cell? (b'.add 5) = some (.int .i64 y.kind) := s0
  have s1 : w.cell? ⟨(b'.add 5).block, (b'.add 5).off + 1, none⟩ = some (.int .i64 y.index) := s1
  have s2 : w.cell? ⟨(b'.add 5).block, (b'.add 5).off + 2, none⟩ = some (.int .i64 y.type.kind) := s2
  have s3 : w.cell? ⟨(b'.add 5).block, (b'.add 5).off + 3, none⟩ = some (.slice B3 y.type.args.length d3) := s3
  have s4 : w.cell? ⟨(b'.add 5).block, (b'.add 5).off + 4, none⟩ = some (.slice A3 y.args.length c3) := s4
  simp [Addr.add] at s0 s1 s2 s3 s4
  obtain ⟨AU, cU, rfl⟩ := hU.form
  obtain ⟨p', D, dD, E, eE, eAU, hp, t0, t1, t2, t3, gX, gY⟩ := hU.two
  subst eAU
  have HXT := Lib.hid (And.intro hxn (And.intro hyn (And.intro gX gY)))
  have hp : p'.block < w.heap.size := hp
  have IHX := Lib.hid ihx
  have IHY := Lib.hid ihy
  clear hxn hyn gX gY ihx ihy hl hT hU
  show Calls Tryd.prog 34 #[.agg #[.int .i64 10, .int .i64 i, .int .i64 T.kind, .slice B1 T.args.length d1, .slice (some b') 2 c1], .agg #[.int .i64 3, .slice (some p') 2 cU]] w (CanR w)
  go_enter Tryd.func34, Tryd.ntmps34
  go_upto_region 1 with fail
  obtain ⟨W, hW, b2, z2, k0, k1⟩ := alloc2_facts w #[.int .i64 10, .int .i64 i, .int .i64 T.kind, .slice B1 T.args.length d1, .slice (some b') 2 c1] #[.int .i64 3, .slice (some p') 2 cU] 34 30
  have hW' : W = (w.alloc (Obj.cells #[.int .i64 10, .int .i64 i, .int .i64 T.kind, .slice B1 T.args.length d1, .slice (some b') 2 c1] 34)).alloc (Obj.cells #[.int .i64 3, .slice (some p') 2 cU] 30) := hW
  rw [← hW']
  obtain ⟨p0, p1, _, _⟩ := k1.facts2
  have HB := Lib.hid (And.intro b2 z2)
  have HK := Lib.hid (And.intro k0 k1)
  have hzW := b2.size
  have HSK := Lib.hid fun (w' : World) (h : Below W.heap.size W w') => And.intro (HK.out.1.below h HK.out.1.lt).facts5.1 (And.intro (HK.out.1.below h HK.out.1.lt).facts5.2.2.2.2.1 (And.intro (HK.out.2.below h HK.out.2.lt).facts2.2.1 (And.intro ((h.cell (p := b') (show b'.block < W.heap.size by omega)).trans ((HB.out.1.cell (p := b') (show b'.block < w.heap.size by omega)).trans q0)) (And.intro ((h.cell (p := ⟨b'.block, b'.off + 1, none⟩) (show b'.block < W.heap.size by omega)).trans ((HB.out.1.cell (p := ⟨b'.block, b'.off + 1, none⟩) (show b'.block < w.heap.size by omega)).trans q1)) (And.intro ((h.cell (p := ⟨b'.block, b'.off + 2, none⟩) (show b'.block < W.heap.size by omega)).trans ((HB.out.1.cell (p := ⟨b'.block, b'.off + 2, none⟩) (show b'.block < w.heap.size by omega)).trans q2)) (And.intro ((h.cell (p := ⟨b'.block, b'.off + 3, none⟩) (show b'.block < W.heap.size by omega)).trans ((HB.out.1.cell (p := ⟨b'.block, b'.off + 3, none⟩) (show b'.block < w.heap.size by omega)).trans q3)) (And.intro ((h.cell (p := ⟨b'.block, b'.off + 4, none⟩) (show b'.block < W.heap.size by omega)).trans ((HB.out.1.cell (p := ⟨b'.block, b'.off + 4, none⟩) (show b'.block < w.heap.size by omega)).trans q4)) (And.intro ((h.cell (p := ⟨b'.block, b'.off + 5, none⟩) (show b'.block < W.heap.size by omega)).trans ((HB.out.1.cell (p := ⟨b'.block, b'.off + 5, none⟩) (show b'.block < w.heap.size by omega)).trans s0)) (And.intro ((h.cell (p := ⟨b'.block, b'.off + 5 + 1, none⟩) (show b'.block < W.heap.size by omega)).trans ((HB.out.1.cell (p := ⟨b'.block, b'.off + 5 + 1, none⟩) (show b'.block < w.heap.size by omega)).trans s1)) (And.intro ((h.cell (p := ⟨b'.block, b'.off + 5 + 2, none⟩) (show b'.block < W.heap.size by omega)).trans ((HB.out.1.cell (p := ⟨b'.block, b'.off + 5 + 2, none⟩) (show b'.block < w.heap.size by omega)).trans s2)) (And.intro ((h.cell (p := ⟨b'.block, b'.off + 5 + 3, none⟩) (show b'.block < W.heap.size by omega)).trans ((HB.out.1.cell (p := ⟨b'.block, b'.off + 5 + 3, none⟩) (show b'.block < w.heap.size by omega)).trans s3)) (And.intro ((h.cell (p := ⟨b'.block, b'.off + 5 + 4, none⟩) (show b'.block < W.heap.size by omega)).trans ((HB.out.1.cell (p := ⟨b'.block, b'.off + 5 + 4, none⟩) (show b'.block < w.heap.size by omega)).trans s4)) (And.intro ((h.cell (p := p') (show p'.block < W.heap.size by omega)).trans ((HB.out.1.cell (p := p') (show p'.block < w.heap.size by omega)).trans t0)) (And.intro ((h.cell (p := ⟨p'.block, p'.off + 1, none⟩) (show p'.block < W.heap.size by omega)).trans ((HB.out.1.cell (p := ⟨p'.block, p'.off + 1, none⟩) (show p'.block < w.heap.size by omega)).trans t1)) (And.intro ((h.cell (p := ⟨p'.block, p'.off + 2, none⟩) (show p'.block < W.heap.size by omega)).trans ((HB.out.1.cell (p := ⟨p'.block, p'.off + 2, none⟩) (show p'.block < w.heap.size by omega)).trans t2)) (((h.cell (p := ⟨p'.block, p'.off + 2 + 1, none⟩) (show p'.block < W.heap.size by omega)).trans ((HB.out.1.cell (p := ⟨p'.block, p'.off + 2 + 1, none⟩) (show p'.block < w.heap.size by omega)).trans t3))))))))))))))))))
  clear hW hW' b2 z2 k0 k1 q0 q1 q2 q3 q4 s0 s1 s2 s3 s4 t0 t1 t2 t3
  go_upto_region 15 with fail
  clear p0 p1
  obtain ⟨y0, y1, y2, y3, y4, y5, y6, y7, y8, y9, y10, y11, y12, y13, y14, y15, y16⟩ := HSK.out W (Below.refl _ _)
  have QD := Lib.hid (show Below W.heap.size W W.drew from (Below.refl _ _).drew)
  go_region_held3 (fun w' => w'.cell? ⟨w.heap.size, 0, none⟩ = some (.int .i64 10) ∧ w'.cell? ⟨w.heap.size, 4, none⟩ = some (.slice (some b') 2 c1) ∧ w'.cell? ⟨w.heap.size + 1, 1, none⟩ = some (.slice (some p') 2 cU) ∧ w'.cell? b' = some (.int .i64 x.kind) ∧ w'.cell? ⟨b'.block, b'.off + 1, none⟩ = some (.int .i64 x.index) ∧ w'.cell? ⟨b'.block, b'.off + 2, none⟩ = some (.int .i64 x.type.kind) ∧ w'.cell? ⟨b'.block, b'.off + 3, none⟩ = some (.slice B2 x.type.args.length d2) ∧ w'.cell? ⟨b'.block, b'.off + 4, none⟩ = some (.slice A2 x.args.length c2) ∧ w'.cell? ⟨b'.block, b'.off + 5, none⟩ = some (.int .i64 y.kind) ∧ w'.cell? ⟨b'.block, b'.off + 5 + 1, none⟩ = some (.int .i64 y.index) ∧ w'.cell? ⟨b'.block, b'.off + 5 + 2, none⟩ = some (.int .i64 y.type.kind) ∧ w'.cell? ⟨b'.block, b'.off + 5 + 3, none⟩ = some (.slice B3 y.type.args.length d3) ∧ w'.cell? ⟨b'.block, b'.off + 5 + 4, none⟩ = some (.slice A3 y.args.length c3) ∧ w'.cell? p' = some (.int .i64 X.kind) ∧ w'.cell? ⟨p'.block, p'.off + 1, none⟩ = some (.slice D X.args.length dD) ∧ w'.cell? ⟨p'.block, p'.off + 2, none⟩ = some (.int .i64 Y.kind) ∧ w'.cell? ⟨p'.block, p'.off + 2 + 1, none⟩ = some (.slice E Y.args.length eE))
    (first | with_reducible exact HSK.out _ QD.out | with_reducible exact HSK.out _ C5.out | with_reducible exact HSK.out _ C6.out)
    (first
      | (go_at_call 34
         have P6 := IHY.out (.agg #[.int .i64 y.kind, .int .i64 y.index, .int .i64 y.type.kind, .slice B3 y.type.args.length d3, .slice A3 y.args.length c3]) (.agg #[.int .i64 Y.kind, .slice E Y.args.length eE]) w5 (HXT.out.2.1.keep (fun b h => by have h' : b < w.heap.size := h; have := C5.out.size; show b < w5.heap.size; omega) (fun p h => (C5.out.cell (by have h' : p.block < w.heap.size := h; omega)).trans (HB.out.1.cell h))) (HXT.out.2.2.2.keep (fun b h => by have h' : b < w.heap.size := h; have := C5.out.size; show b < w5.heap.size; omega) (fun p h => (C5.out.cell (by have h' : p.block < w.heap.size := h; omega)).trans (HB.out.1.cell h)))
         (with_reducible refine P6.mono ?_)
         rintro e w6 ⟨rfl, r6⟩
         clear P6
         have C6 := Lib.hid (show Below W.heap.size W w6 from C5.out.trans (r6.mono C5.out.size))
         clear r6)
      | (go_at_call 34
         have P5 := IHX.out (.agg #[.int .i64 x.kind, .int .i64 x.index, .int .i64 x.type.kind, .slice B2 x.type.args.length d2, .slice A2 x.args.length c2]) (.agg #[.int .i64 X.kind, .slice D X.args.length dD]) W.drew (HXT.out.1.keep (S' := (· < W.drew.heap.size)) (w' := W.drew) (fun b h => by have h' : b < w.heap.size := h; show b < W.heap.size; omega) (fun p h => (QD.out.cell (by have h' : p.block < w.heap.size := h; omega)).trans (HB.out.1.cell h))) (HXT.out.2.2.1.keep (S' := (· < W.drew.heap.size)) (w' := W.drew) (fun b h => by have h' : b < w.heap.size := h; show b < W.heap.size; omega) (fun p h => (QD.out.cell (by have h' : p.block < w.heap.size := h; omega)).trans (HB.out.1.cell h)))
         (with_reducible refine P5.mono ?_)
         rintro e w5 ⟨rfl, r5⟩
         clear P5
         have C5 := Lib.hid (show Below W.heap.size W w5 from QD.out.trans r5)
         clear r5))
  all_goals
    go_wp2_with fail
    go_ret
    exact ⟨rfl, HB.out.1.trans (C6.out.mono hzW)⟩

theorem canonical_any {t : Tm} {U : Ty} (h : Canon t U) : ∀ (v uv : Value) (w : World), IsTm (· < w.heap.size) w t v → IsTy (· < w.heap.size) w U uv → Calls Tryd.prog 34 #[v, uv] w (CanR w) := by
  induction h with
  | zero i T => exact fun v uv w hT hU => canonical_nat _ v uv w (.zero i T) hT hU
  | succ i T n h _ => exact fun v uv w hT hU => canonical_nat _ v uv w (.succ i T n h) hT hU
  | nil i T => exact fun v uv w hT hU => canonical_list _ v uv w (.nil i T) hT hU
  | cons i T x y h k _ _ => exact fun v uv w hT hU => canonical_list _ v uv w (.cons i T x y h k) hT hU
  | unit i T => exact fun v uv w hT hU => canonical_leaf _ _ v uv w (.inl ⟨rfl, rfl⟩) hT hU
  | pair i T a c A C _ _ iha ihc => exact fun v uv w hT hU => canonical_pair i T a c A C v uv w iha ihc hT hU
  | lam i S b V => exact fun v uv w hT hU => canonical_leaf _ _ v uv w (.inr ⟨rfl, rfl⟩) hT hU
end Go.Proofs.YtdbkphgamkeboaaDoor
