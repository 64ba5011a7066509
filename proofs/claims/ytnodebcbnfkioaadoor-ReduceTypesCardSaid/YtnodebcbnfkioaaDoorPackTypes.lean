/- Lifting and putting in, one after the other. -/
import Derived.Test.YtnodebcbnfkioaaDoorPackSubst
import Derived.Test.YtnodebcbnfkioaaDoorPackRed
import Derived.Test.YtnodebcbnfkioaaDoorMade
import Derived.Test.YtnodebcbnfkioaaDoorPackEnd
import Derived.Test.YtnodebcbnfkioaaDoorMkVars
import Derived.Maps.OwnSet
import Derived.Maps.RangeWalk
import Derived.Maps.AppendAt
import Derived.Deep.AppendLies
import Derived.Deep.Onto
import Derived.Test.YtnodebcbnfkioaaDoorPackFin
namespace Go.Proofs.YtnodebcbnfkioaaDoor
open Go.RowKit

/-! Lifting and putting in, one after the other. -/
theorem lift_mk (k i : Int) (T : Ty) (l : List Tm) (m n : Nat) : (Tm.mk k i T l).lift m n = .mk k (if k = 1 ∧ (m : Int) ≤ i then i + n else i) T (liftAll l (if k = 2 then m + 1 else m) n) := by rw [Tm.lift]
theorem lift_var (i : Int) (T : Ty) (m n : Nat) : (Tm.mk 1 i T []).lift m n = .mk 1 (if (m : Int) ≤ i then i + n else i) T [] := by
  rw [lift_mk]; simp [liftAll]
theorem lift_node {k i : Int} {T : Ty} {l : List Tm} {m n : Nat} (hk : k ≠ 1) : (Tm.mk k i T l).lift m n = .mk k i T (liftAll l (if k = 2 then m + 1 else m) n) := by
  rw [lift_mk, if_neg (fun e => hk e.1)]
theorem put_var (i : Int) (T : Ty) (m : Nat) (s : Tm) : (Tm.mk 1 i T []).put m s = if i = (m : Int) then s.lift 0 m else if (m : Int) < i then .mk 1 (i - 1) T [] else .mk 1 i T [] := by
  rw [Tm.put, if_pos rfl]
theorem put_node {k i : Int} {T : Ty} {l : List Tm} {m : Nat} {s : Tm} (hk : k ≠ 1) : (Tm.mk k i T l).put m s = .mk k i T (putAll l (if k = 2 then m + 1 else m) s) := by
  rw [Tm.put, if_neg hk]
theorem var_nil {i : Int} {T : Ty} {l : List Tm} (h : (Tm.mk 1 i T l).ok = true) : l = [] := by
  rw [Tm.ok, Bool.and_eq_true] at h
  exact List.eq_nil_of_length_eq_zero (formed_kind h.1).2.2.1
theorem ok_parts {k i : Int} {T : Ty} {l : List Tm} (h : (Tm.mk k i T l).ok = true) : okAllT l = true := by
  rw [Tm.ok, Bool.and_eq_true] at h; exact h.2
theorem put_var_eq {i : Int} {T : Ty} {m : Nat} {s : Tm} (h : i = (m : Int)) : (Tm.mk 1 i T []).put m s = s.lift 0 m := by rw [put_var, if_pos h]
theorem put_var_gt {i : Int} {T : Ty} {m : Nat} {s : Tm} (h : (m : Int) < i) : (Tm.mk 1 i T []).put m s = .mk 1 (i - 1) T [] := by rw [put_var, if_neg (by omega), if_pos h]
theorem put_var_lt {i : Int} {T : Ty} {m : Nat} {s : Tm} (h : i < (m : Int)) : (Tm.mk 1 i T []).put m s = .mk 1 i T [] := by rw [put_var, if_neg (by omega), if_neg (by omega)]
theorem lift_var_ge {i : Int} {T : Ty} {m n : Nat} (h : (m : Int) ≤ i) : (Tm.mk 1 i T []).lift m n = .mk 1 (i + n) T [] := by rw [lift_var, if_pos h]
theorem lift_var_lt {i : Int} {T : Ty} {m n : Nat} (h : i < (m : Int)) : (Tm.mk 1 i T []).lift m n = .mk 1 i T [] := by rw [lift_var, if_neg (by omega)]

mutual
theorem lift_merge : ∀ (t : Tm) (q a p b : Nat), t.ok = true → p ≤ a → (t.lift q a).lift (q + p) b = t.lift q (a + b)
  | .mk k i T l, q, a, p, b, ho, h => by
    by_cases hk : k = 1
    · subst hk
      obtain rfl := var_nil ho
      by_cases hi : (q : Int) ≤ i
      · rw [lift_var_ge hi, lift_var_ge hi, lift_var_ge (by omega)]; congr 1; omega
      · rw [lift_var_lt (by omega), lift_var_lt (by omega), lift_var_lt (by omega)]
    · rw [lift_node hk, lift_node hk, lift_node hk, show (if k = 2 then q + p + 1 else q + p) = (if k = 2 then q + 1 else q) + p from by split <;> omega, liftAll_merge l _ a p b (ok_parts ho) h]
theorem liftAll_merge : ∀ (l : List Tm) (q a p b : Nat), okAllT l = true → p ≤ a → liftAll (liftAll l q a) (q + p) b = liftAll l q (a + b)
  | [], _, _, _, _, _, _ => by simp [liftAll]
  | t :: r, q, a, p, b, ho, h => by
    simp only [okAllT, Bool.and_eq_true] at ho
    simp only [liftAll, lift_merge t q a p b ho.1 h, liftAll_merge r q a p b ho.2 h]
end
mutual
theorem lift_comm : ∀ (t : Tm) (q p m n : Nat), t.ok = true → (t.lift q p).lift (q + p + m) n = (t.lift (q + m) n).lift q p
  | .mk k i T l, q, p, m, n, ho => by
    by_cases hk : k = 1
    · subst hk
      obtain rfl := var_nil ho
      by_cases hi : (q : Int) ≤ i
      · rw [lift_var_ge hi]
        by_cases hj : ((q + m : Nat) : Int) ≤ i
        · rw [lift_var_ge (i := i) hj, lift_var_ge (by omega), lift_var_ge (by omega)]; congr 1; omega
        · rw [lift_var_lt (i := i) (by omega), lift_var_lt (by omega), lift_var_ge (by omega)]
      · rw [lift_var_lt (by omega), lift_var_lt (by omega), lift_var_lt (by omega), lift_var_lt (by omega)]
    · rw [lift_node hk, lift_node hk, lift_node hk, lift_node hk, show (if k = 2 then q + p + m + 1 else q + p + m) = (if k = 2 then q + 1 else q) + p + m from by split <;> omega,
        liftAll_comm l _ p m n (ok_parts ho), show (if k = 2 then q + 1 else q) + m = (if k = 2 then q + m + 1 else q + m) from by split <;> omega]
theorem liftAll_comm : ∀ (l : List Tm) (q p m n : Nat), okAllT l = true → liftAll (liftAll l q p) (q + p + m) n = liftAll (liftAll l (q + m) n) q p
  | [], _, _, _, _, _ => by simp [liftAll]
  | t :: r, q, p, m, n, ho => by
    simp only [okAllT, Bool.and_eq_true] at ho
    simp only [liftAll, lift_comm t q p m n ho.1, liftAll_comm r q p m n ho.2]
end
mutual
theorem lift_put_hi (r : Tm) (hr : r.ok = true) : ∀ (t : Tm) (p m n : Nat), t.ok = true → (t.lift p m).put (p + m + n) r = (t.put (p + n) r).lift p m
  | .mk k i T l, p, m, n, ho => by
    by_cases hk : k = 1
    · subst hk
      obtain rfl := var_nil ho
      by_cases h1 : i = ((p + n : Nat) : Int)
      · rw [lift_var_ge (by omega), put_var_eq (by omega), put_var_eq h1]
        have := lift_merge r 0 (p + n) p m hr (by omega)
        rw [Nat.zero_add] at this
        rw [this]; congr 1; omega
      · by_cases h2 : ((p + n : Nat) : Int) < i
        · rw [lift_var_ge (by omega), put_var_gt (by omega), put_var_gt h2, lift_var_ge (by omega)]; congr 1; omega
        · rw [put_var_lt (i := i) (by omega)]
          by_cases h3 : (p : Int) ≤ i
          · rw [lift_var_ge h3, put_var_lt (by omega)]
          · rw [lift_var_lt (by omega), put_var_lt (by omega)]
    · rw [lift_node hk, put_node hk, put_node hk, lift_node hk, show (if k = 2 then p + m + n + 1 else p + m + n) = (if k = 2 then p + 1 else p) + m + n from by split <;> omega,
        liftAll_put_hi r hr l _ m n (ok_parts ho), show (if k = 2 then p + 1 else p) + n = (if k = 2 then p + n + 1 else p + n) from by split <;> omega]
theorem liftAll_put_hi (r : Tm) (hr : r.ok = true) : ∀ (l : List Tm) (p m n : Nat), okAllT l = true → putAll (liftAll l p m) (p + m + n) r = liftAll (putAll l (p + n) r) p m
  | [], _, _, _, _ => by simp [liftAll, putAll]
  | t :: l, p, m, n, ho => by
    simp only [okAllT, Bool.and_eq_true] at ho
    simp only [liftAll, putAll, lift_put_hi r hr t p m n ho.1, liftAll_put_hi r hr l p m n ho.2]
end
mutual
theorem lift_put_lo (s : Tm) : ∀ (t : Tm) (q a p : Nat), t.ok = true → p ≤ a → (t.lift q (a + 1)).put (q + p) s = t.lift q a
  | .mk k i T l, q, a, p, ho, h => by
    by_cases hk : k = 1
    · subst hk
      obtain rfl := var_nil ho
      by_cases h1 : (q : Int) ≤ i
      · rw [lift_var_ge h1, lift_var_ge h1, put_var_gt (by omega)]; congr 1; omega
      · rw [lift_var_lt (by omega), lift_var_lt (by omega), put_var_lt (by omega)]
    · rw [lift_node hk, put_node hk, lift_node hk, show (if k = 2 then q + p + 1 else q + p) = (if k = 2 then q + 1 else q) + p from by split <;> omega, liftAll_put_lo s l _ a p (ok_parts ho) h]
theorem liftAll_put_lo (s : Tm) : ∀ (l : List Tm) (q a p : Nat), okAllT l = true → p ≤ a → putAll (liftAll l q (a + 1)) (q + p) s = liftAll l q a
  | [], _, _, _, _, _ => by simp [liftAll, putAll]
  | t :: l, q, a, p, ho, h => by
    simp only [okAllT, Bool.and_eq_true] at ho
    simp only [liftAll, putAll, lift_put_lo s t q a p ho.1 h, liftAll_put_lo s l q a p ho.2 h]
end
mutual
theorem put_lift (a : Tm) (ha : a.ok = true) : ∀ (t : Tm) (p m n : Nat), t.ok = true → (t.put p a).lift (p + m) n = (t.lift (p + m + 1) n).put p (a.lift m n)
  | .mk k i T l, p, m, n, ho => by
    by_cases hk : k = 1
    · subst hk
      obtain rfl := var_nil ho
      by_cases h1 : i = (p : Int)
      · rw [put_var_eq h1, lift_var_lt (by omega), put_var_eq h1]
        have := lift_comm a 0 p m n ha
        simp only [Nat.zero_add] at this
        exact this
      · by_cases h2 : (p : Int) < i
        · rw [put_var_gt h2]
          by_cases h3 : ((p + m + 1 : Nat) : Int) ≤ i
          · rw [lift_var_ge (by omega), lift_var_ge h3, put_var_gt (by omega)]; congr 1; omega
          · rw [lift_var_lt (by omega), lift_var_lt (by omega), put_var_gt h2]
        · rw [put_var_lt (by omega), lift_var_lt (by omega), lift_var_lt (by omega), put_var_lt (by omega)]
    · rw [put_node hk, lift_node hk, lift_node hk, put_node hk, show (if k = 2 then p + m + 1 else p + m) = (if k = 2 then p + 1 else p) + m from by split <;> omega,
        putAll_lift a ha l _ m n (ok_parts ho), show (if k = 2 then p + 1 else p) + m + 1 = (if k = 2 then p + m + 1 + 1 else p + m + 1) from by split <;> omega]
theorem putAll_lift (a : Tm) (ha : a.ok = true) : ∀ (l : List Tm) (p m n : Nat), okAllT l = true → liftAll (putAll l p a) (p + m) n = putAll (liftAll l (p + m + 1) n) p (a.lift m n)
  | [], _, _, _, _ => by simp [liftAll, putAll]
  | t :: l, p, m, n, ho => by
    simp only [okAllT, Bool.and_eq_true] at ho
    simp only [liftAll, putAll, put_lift a ha t p m n ho.1, putAll_lift a ha l p m n ho.2]
end
mutual
/-- What is put in can be exchanged. -/
theorem put_put (a r : Tm) (ha : a.ok = true) (hr : r.ok = true) : ∀ (t : Tm) (m n : Nat), t.ok = true → (t.put m a).put (m + n) r = (t.put (m + n + 1) r).put m (a.put n r)
  | .mk k i T l, m, n, ho => by
    by_cases hk : k = 1
    · subst hk
      obtain rfl := var_nil ho
      by_cases h1 : i = (m : Int)
      · rw [put_var_eq h1, put_var_lt (by omega), put_var_eq h1]
        have := lift_put_hi r hr a 0 m n ha
        simp only [Nat.zero_add] at this
        exact this
      · by_cases h2 : (m : Int) < i
        · rw [put_var_gt h2]
          by_cases h3 : i = ((m + n + 1 : Nat) : Int)
          · rw [put_var_eq (by omega), put_var_eq h3]
            have := lift_put_lo (a.put n r) r 0 (m + n) m hr (by omega)
            rw [Nat.zero_add] at this
            exact this.symm
          · by_cases h4 : ((m + n + 1 : Nat) : Int) < i
            · rw [put_var_gt (by omega), put_var_gt h4, put_var_gt (by omega)]
            · rw [put_var_lt (by omega), put_var_lt (by omega), put_var_gt h2]
        · rw [put_var_lt (by omega), put_var_lt (by omega), put_var_lt (by omega), put_var_lt (by omega)]
    · rw [put_node hk, put_node hk, put_node hk, put_node hk, show (if k = 2 then m + n + 1 else m + n) = (if k = 2 then m + 1 else m) + n from by split <;> omega,
        putAll_put a r ha hr l _ n (ok_parts ho), show (if k = 2 then m + 1 else m) + n + 1 = (if k = 2 then m + n + 1 + 1 else m + n + 1) from by split <;> omega]
theorem putAll_put (a r : Tm) (ha : a.ok = true) (hr : r.ok = true) : ∀ (l : List Tm) (m n : Nat), okAllT l = true → putAll (putAll l m a) (m + n) r = putAll (putAll l (m + n + 1) r) m (a.put n r)
  | [], _, _, _ => by simp [putAll]
  | t :: l, m, n, ho => by
    simp only [okAllT, Bool.and_eq_true] at ho
    simp only [putAll, put_put a r ha hr t m n ho.1, putAll_put a r ha hr l m n ho.2]
end

mutual
theorem lift_zero : ∀ (t : Tm) (m : Nat), t.lift m 0 = t
  | .mk k i T l, m => by
    rw [lift_mk, liftAll_zero l]
    congr 1
    split <;> omega
theorem liftAll_zero : ∀ (l : List Tm) (m : Nat), liftAll l m 0 = l
  | [], _ => by simp [liftAll]
  | t :: r, m => by simp only [liftAll, lift_zero t m, liftAll_zero r m]
end
mutual
/-- A variable that was lifted away does not stand anywhere. -/
theorem lift_occ : ∀ (t : Tm) (q a p : Nat), t.ok = true → p ≤ a → (t.lift q (a + 1)).occ (q + p) = 0
  | .mk k i T l, q, a, p, ho, h => by
    by_cases hk : k = 1
    · subst hk
      obtain rfl := var_nil ho
      by_cases hi : (q : Int) ≤ i
      · rw [lift_var_ge hi, Tm.occ, if_pos rfl, if_neg (by omega)]
      · rw [lift_var_lt (by omega), Tm.occ, if_pos rfl, if_neg (by omega)]
    · rw [lift_node hk, Tm.occ, if_neg hk, show (if k = 2 then q + p + 1 else q + p) = (if k = 2 then q + 1 else q) + p from by split <;> omega]
      exact liftAll_occ l _ a p (ok_parts ho) h
theorem liftAll_occ : ∀ (l : List Tm) (q a p : Nat), okAllT l = true → p ≤ a → occAll (liftAll l q (a + 1)) (q + p) = 0
  | [], _, _, _, _, _ => by simp [liftAll, occAll]
  | t :: r, q, a, p, ho, h => by
    simp only [okAllT, Bool.and_eq_true] at ho
    simp only [liftAll, occAll, lift_occ t q a p ho.1 h, liftAll_occ r q a p ho.2 h]
end
end Go.Proofs.YtnodebcbnfkioaaDoor
namespace Go.Proofs.YtnodebcbnfkioaaDoor
open Go.RowKit

/-- Where a variable goes. -/
def upVar (m n : Nat) (x : Int × Nat) : Int × Nat := (if ((m + x.2 : Nat) : Int) ≤ x.1 then x.1 + (n : Int) else x.1, x.2)
mutual
theorem vars_lift (m n : Nat) : ∀ (t : Tm) (d : Nat), t.ok = true → (t.lift (m + d) n).vars d = (t.vars d).map (upVar m n)
  | .mk k i T l, d, ho => by
    by_cases hk : k = 1
    · subst hk
      obtain rfl := var_nil ho
      rw [lift_var, vars_mk, if_pos rfl, vars_mk, if_pos rfl]
      rfl
    · rw [lift_node hk, vars_mk, if_neg hk, vars_mk, if_neg hk, show (if k = 2 then m + d + 1 else m + d) = m + (if k = 2 then d + 1 else d) from by split <;> omega]
      exact varsAll_lift m n l _ (ok_parts ho)
theorem varsAll_lift (m n : Nat) : ∀ (l : List Tm) (d : Nat), okAllT l = true → varsAll (liftAll l (m + d) n) d = (varsAll l d).map (upVar m n)
  | [], _, _ => by simp [liftAll, varsAll]
  | t :: r, d, ho => by
    simp only [okAllT, Bool.and_eq_true] at ho
    simp only [liftAll, varsAll, List.map_append, vars_lift m n t d ho.1, varsAll_lift m n r d ho.2]
end

/-- A variable that is free, by its number. -/
def FreeIn (L : List (Int × Nat)) (x : Int) : Prop := ∃ y ∈ L, (y.2 : Int) ≤ y.1 ∧ x = y.1 - y.2
theorem freeIn_append {L M : List (Int × Nat)} {x : Int} : FreeIn (L ++ M) x ↔ FreeIn L x ∨ FreeIn M x := by
  unfold FreeIn
  constructor
  · rintro ⟨y, hy, h⟩
    rcases List.mem_append.1 hy with hy | hy
    · exact .inl ⟨y, hy, h⟩
    · exact .inr ⟨y, hy, h⟩
  · rintro (⟨y, hy, h⟩ | ⟨y, hy, h⟩)
    · exact ⟨y, List.mem_append_left _ hy, h⟩
    · exact ⟨y, List.mem_append_right _ hy, h⟩
theorem freeIn_one {i : Int} {d : Nat} {x : Int} : FreeIn [(i, d)] x ↔ (d : Int) ≤ i ∧ x = i - d := by
  constructor
  · rintro ⟨y, hy, h, rfl⟩
    rw [List.mem_singleton.1 hy] at h ⊢
    exact ⟨h, rfl⟩
  · rintro ⟨h, rfl⟩
    exact ⟨_, List.mem_singleton.2 rfl, h, rfl⟩

mutual
theorem vars_from (c : Nat) : ∀ (t : Tm) (d : Nat), t.vars (d + c) = (t.vars d).map fun y => (y.1, y.2 + c)
  | .mk k i T l, d => by
    rw [vars_mk, vars_mk]
    by_cases hk : k = 1
    · rw [if_pos hk, if_pos hk]; rfl
    · rw [if_neg hk, if_neg hk, show (if k = 2 then d + c + 1 else d + c) = (if k = 2 then d + 1 else d) + c from by split <;> omega]
      exact varsAll_from c l _
theorem varsAll_from (c : Nat) : ∀ (l : List Tm) (d : Nat), varsAll l (d + c) = (varsAll l d).map fun y => (y.1, y.2 + c)
  | [], _ => by simp [varsAll]
  | t :: r, d => by simp only [varsAll, List.map_append, vars_from c t d, varsAll_from c r d]
end

theorem free_lift {s : Tm} (ho : s.ok = true) (d : Nat) (x : Int) : FreeIn ((s.lift 0 d).vars d) x ↔ FreeIn (s.vars 0) x := by
  have h1 := vars_from d (s.lift 0 d) 0
  rw [Nat.zero_add] at h1
  have h2 := vars_lift 0 d s 0 ho
  rw [Nat.add_zero] at h2
  rw [h1, h2, List.map_map]
  constructor
  · rintro ⟨z, hz, h3, rfl⟩
    obtain ⟨y, hy, rfl⟩ := List.mem_map.1 hz
    simp only [Function.comp, upVar, Nat.zero_add] at h3 ⊢
    refine ⟨y, hy, ?_, ?_⟩
    · split at h3 <;> omega
    · split <;> split at h3 <;> omega
  · rintro ⟨y, hy, h3, rfl⟩
    refine ⟨_, List.mem_map.2 ⟨y, hy, rfl⟩, ?_, ?_⟩
    · simp only [Function.comp, upVar, Nat.zero_add]
      split <;> omega
    · simp only [Function.comp, upVar, Nat.zero_add]
      split <;> omega

mutual
theorem free_put (s : Tm) (hs : s.ok = true) : ∀ (t : Tm) (d : Nat), t.ok = true → ∀ x, FreeIn ((t.put d s).vars d) x ↔ (∃ z, FreeIn (t.vars d) z ∧ 0 < z ∧ x = z - 1) ∨ (FreeIn (t.vars d) 0 ∧ FreeIn (s.vars 0) x)
  | .mk k i T l, d, ho, x => by
    by_cases hk : k = 1
    · subst hk
      obtain rfl := var_nil ho
      rw [Tm.put, if_pos rfl, vars_mk, if_pos rfl]
      by_cases h1 : i = (d : Int)
      · rw [if_pos h1, free_lift hs]
        simp only [freeIn_one]
        constructor
        · intro h; exact .inr ⟨⟨by omega, by omega⟩, h⟩
        · rintro (⟨z, ⟨h2, rfl⟩, h3, _⟩ | ⟨_, h⟩)
          · omega
          · exact h
      · rw [if_neg h1]
        by_cases h2 : (d : Int) < i
        · rw [if_pos h2, vars_mk, if_pos rfl]
          simp only [freeIn_one]
          constructor
          · rintro ⟨h3, rfl⟩
            exact .inl ⟨i - d, ⟨by omega, rfl⟩, by omega, by omega⟩
          · rintro (⟨z, ⟨h3, rfl⟩, h4, rfl⟩ | ⟨⟨h3, h4⟩, _⟩)
            · exact ⟨by omega, by omega⟩
            · omega
        · rw [if_neg h2, vars_mk, if_pos rfl]
          simp only [freeIn_one]
          constructor
          · rintro ⟨h3, _⟩; omega
          · rintro (⟨z, ⟨h3, _⟩, _⟩ | ⟨⟨h3, _⟩, _⟩) <;> omega
    · rw [Tm.put, if_neg hk, vars_mk, if_neg hk, vars_mk, if_neg hk]
      exact free_putAll s hs l _ (ok_parts ho) x
theorem free_putAll (s : Tm) (hs : s.ok = true) : ∀ (l : List Tm) (d : Nat), okAllT l = true → ∀ x, FreeIn (varsAll (putAll l d s) d) x ↔ (∃ z, FreeIn (varsAll l d) z ∧ 0 < z ∧ x = z - 1) ∨ (FreeIn (varsAll l d) 0 ∧ FreeIn (s.vars 0) x)
  | [], _, _, x => by simp [putAll, varsAll, FreeIn]
  | t :: r, d, ho, x => by
    simp only [okAllT, Bool.and_eq_true] at ho
    simp only [putAll, varsAll, freeIn_append, free_put s hs t d ho.1 x, free_putAll s hs r d ho.2 x]
    constructor
    · rintro ((⟨z, h, h'⟩ | ⟨h, h'⟩) | (⟨z, h, h'⟩ | ⟨h, h'⟩))
      · exact .inl ⟨z, .inl h, h'⟩
      · exact .inr ⟨.inl h, h'⟩
      · exact .inl ⟨z, .inr h, h'⟩
      · exact .inr ⟨.inr h, h'⟩
    · rintro (⟨z, h | h, h'⟩ | ⟨h | h, h'⟩)
      · exact .inl (.inl ⟨z, h, h'⟩)
      · exact .inr (.inl ⟨z, h, h'⟩)
      · exact .inl (.inr ⟨h, h'⟩)
      · exact .inr (.inr ⟨h, h'⟩)
end
end Go.Proofs.YtnodebcbnfkioaaDoor
namespace Go.Proofs.YtnodebcbnfkioaaDoor
open Go.RowKit

theorem freeIn_from (L : List (Int × Nat)) (c : Nat) (x : Int) : FreeIn (L.map fun y => (y.1, y.2 + c)) x ↔ 0 ≤ x ∧ FreeIn L (x + c) := by
  constructor
  · rintro ⟨z, hz, h, rfl⟩
    obtain ⟨y, hy, rfl⟩ := List.mem_map.1 hz
    simp only at h ⊢
    exact ⟨by omega, y, hy, by omega, by omega⟩
  · rintro ⟨h0, y, hy, h, e⟩
    exact ⟨(y.1, y.2 + c), List.mem_map.2 ⟨y, hy, rfl⟩, by simp only; omega, by simp only; omega⟩
theorem free_from (t : Tm) (d : Nat) (x : Int) : FreeIn (t.vars d) x ↔ 0 ≤ x ∧ FreeIn (t.vars 0) (x + d) := by
  have := vars_from d t 0
  rw [Nat.zero_add] at this
  rw [this]
  exact freeIn_from _ d x
theorem varsAll_free {l : List Tm} {d : Nat} {x : Int} : FreeIn (varsAll l d) x ↔ ∃ a ∈ l, FreeIn (a.vars d) x := by
  induction l with
  | nil => simp [varsAll, FreeIn]
  | cons a r ih => simp only [varsAll, freeIn_append, ih, List.mem_cons, exists_eq_or_imp]
theorem free_mk {k i : Int} {T : Ty} {l : List Tm} {x : Int} (hk : k ≠ 1) : FreeIn ((Tm.mk k i T l).vars 0) x ↔ ∃ a ∈ l, FreeIn (a.vars (if k = 2 then 1 else 0)) x := by
  rw [vars_mk, if_neg hk, varsAll_free]
/-- A redex keeps its free variables, or loses some. -/
theorem Red.free {t u : Tm} (h : Red t u) (ho : t.ok = true) (x : Int) (hx : FreeIn (u.vars 0) x) : FreeIn (t.vars 0) x := by
  cases h with
  | app i T j U b a =>
    have hb := ok_arg (ok_arg ho (a := .mk 2 j U [b]) (by simp)) (a := b) (by simp)
    have ha := ok_arg ho (a := a) (by simp)
    rw [free_mk (by decide)]
    rcases (free_put a ha b 0 hb x).1 hx with ⟨z, h1, h2, rfl⟩ | ⟨_, h2⟩
    · refine ⟨_, List.mem_cons_self .., ?_⟩
      rw [if_neg (by decide), free_mk (by decide)]
      refine ⟨b, List.mem_cons_self .., ?_⟩
      rw [if_pos rfl, free_from]
      exact ⟨by omega, by simpa using h1⟩
    · exact ⟨a, by simp, by simpa using h2⟩
  | zero => rw [free_mk (by decide)]; exact ⟨u, by simp, by simpa using hx⟩
  | nil => rw [free_mk (by decide)]; exact ⟨u, by simp, by simpa using hx⟩
  | succ i T b f j U n =>
    have hn : FreeIn (n.vars 0) x → FreeIn ((Tm.mk 5 j U [n]).vars 0) x := fun h => (free_mk (by decide)).2 ⟨n, by simp, by simpa using h⟩
    simp only [free_mk (show (3 : Int) ≠ 1 by decide), free_mk (show (6 : Int) ≠ 1 by decide), List.mem_cons, List.not_mem_nil, or_false, exists_eq_or_imp, exists_eq_left, if_neg (show (3 : Int) ≠ 2 by decide), if_neg (show (6 : Int) ≠ 2 by decide)] at hx ⊢
    rcases hx with (h | h) | h | h | h
    · exact .inr (.inl h)
    · exact .inr (.inr (hn h))
    · exact .inl h
    · exact .inr (.inl h)
    · exact .inr (.inr (hn h))
  | cons i T b f j U y z =>
    have hy : FreeIn (y.vars 0) x → FreeIn ((Tm.mk 8 j U [y, z]).vars 0) x := fun h => (free_mk (by decide)).2 ⟨y, by simp, by simpa using h⟩
    have hz : FreeIn (z.vars 0) x → FreeIn ((Tm.mk 8 j U [y, z]).vars 0) x := fun h => (free_mk (by decide)).2 ⟨z, by simp, by simpa using h⟩
    simp only [free_mk (show (3 : Int) ≠ 1 by decide), free_mk (show (9 : Int) ≠ 1 by decide), List.mem_cons, List.not_mem_nil, or_false, exists_eq_or_imp, exists_eq_left, if_neg (show (3 : Int) ≠ 2 by decide), if_neg (show (9 : Int) ≠ 2 by decide)] at hx ⊢
    rcases hx with ((h | h) | h) | h | h | h
    · exact .inr (.inl h)
    · exact .inr (.inr (hy h))
    · exact .inr (.inr (hz h))
    · exact .inl h
    · exact .inr (.inl h)
    · exact .inr (.inr (hz h))
  | fst i T j U a c =>
    rw [free_mk (by decide)]
    refine ⟨_, List.mem_cons_self .., ?_⟩
    rw [if_neg (by decide), free_mk (by decide)]
    exact ⟨u, by simp, by simpa using hx⟩
  | snd i T j U a c =>
    rw [free_mk (by decide)]
    refine ⟨_, List.mem_cons_self .., ?_⟩
    rw [if_neg (by decide), free_mk (by decide)]
    exact ⟨u, by simp, by simpa using hx⟩
theorem Deep.free {t u : Tm} (h : Deep t u) : t.ok = true → ∀ x, FreeIn (u.vars 0) x → FreeIn (t.vars 0) x := by
  induction h with
  | here h => exact fun ho x hx => h.free ho x hx
  | arg k i T l j hj u h ih =>
    intro ho x hx
    have hl : l ≠ [] := by intro e; subst e; simp at hj
    have hk : k ≠ 1 := by rintro rfl; exact hl (var_nil ho)
    rw [free_mk hk] at hx ⊢
    obtain ⟨a, ha, hx⟩ := hx
    rcases List.mem_or_eq_of_mem_set ha with ha | rfl
    · exact ⟨a, ha, hx⟩
    · refine ⟨l[j], List.getElem_mem hj, ?_⟩
      rw [free_from] at hx ⊢
      exact ⟨hx.1, ih (ok_arg ho (List.getElem_mem hj)) _ hx.2⟩
/-- A step keeps the free variables, or loses some. -/
theorem next_free {t u : Tm} (ho : t.ok = true) (h : t.next = some u) (x : Int) (hx : FreeIn (u.vars 0) x) : FreeIn (t.vars 0) x := (next_deep t ho h).free ho x hx
end Go.Proofs.YtnodebcbnfkioaaDoor
namespace Go.Proofs.YtnodebcbnfkioaaDoor
open Go.RowKit

theorem typAll_one {a : Tm} {G ps : List Ty} (h : typAll [a] G = .ok ps) : ∃ A, a.typ G = .ok A ∧ ps = [A] := by
  simp only [typAll] at h
  cases ha : a.typ G with
  | error e => rw [ha] at h; cases h
  | ok A => rw [ha] at h; simp only [Except.ok.injEq] at h; exact ⟨A, rfl, h.symm⟩
theorem typAll_cons {a : Tm} {r : List Tm} {G ps : List Ty} (h : typAll (a :: r) G = .ok ps) : ∃ A qs, a.typ G = .ok A ∧ typAll r G = .ok qs ∧ ps = A :: qs := by
  simp only [typAll] at h
  cases ha : a.typ G with
  | error e => rw [ha] at h; cases h
  | ok A =>
    rw [ha] at h
    simp only at h
    cases hr : typAll r G with
    | error e => rw [hr] at h; cases h
    | ok qs => rw [hr] at h; simp only [Except.ok.injEq] at h; exact ⟨A, qs, rfl, rfl, h.symm⟩
theorem typAll_two {a b : Tm} {G ps : List Ty} (h : typAll [a, b] G = .ok ps) : ∃ A B, a.typ G = .ok A ∧ b.typ G = .ok B ∧ ps = [A, B] := by
  obtain ⟨A, qs, h1, h2, rfl⟩ := typAll_cons h
  obtain ⟨B, h3, rfl⟩ := typAll_one h2
  exact ⟨A, B, h1, h3, rfl⟩
theorem typAll_three {a b c : Tm} {G ps : List Ty} (h : typAll [a, b, c] G = .ok ps) : ∃ A B C, a.typ G = .ok A ∧ b.typ G = .ok B ∧ c.typ G = .ok C ∧ ps = [A, B, C] := by
  obtain ⟨A, qs, h1, h2, rfl⟩ := typAll_cons h
  obtain ⟨B, C, h3, h4, rfl⟩ := typAll_two h2
  exact ⟨A, B, C, h1, h3, h4, rfl⟩
theorem inv_inv {k i : Int} {T : Ty} {l : List Tm} {G : List Ty} {U : Ty} (hk : k ≠ 1) (h : (Tm.mk k i T l).typ G = .ok U) : ∃ ps, typAll l (if k = 2 then G ++ [T] else G) = .ok ps ∧ nodeTy k T ps = .ok U := by
  rw [Tm.typ, if_neg hk] at h
  cases hp : typAll l (if k = 2 then G ++ [T] else G) with
  | error e => rw [hp] at h; cases h
  | ok ps => rw [hp] at h; exact ⟨ps, rfl, h⟩

theorem inv_app {i : Int} {T : Ty} {f a : Tm} {G : List Ty} {U : Ty} (h : (Tm.mk 3 i T [f, a]).typ G = .ok U) : ∃ S, f.typ G = .ok (tyFun S U) ∧ a.typ G = .ok S := by
  obtain ⟨ps, h1, h2⟩ := inv_inv (by decide) h
  obtain ⟨A, B, ha, hb, rfl⟩ := typAll_two h1
  unfold nodeTy at h2
  rw [if_neg (by decide), if_pos rfl] at h2
  split at h2
  · rename_i s u a he
    simp only [List.cons.injEq, and_true] at he
    obtain ⟨rfl, rfl⟩ := he
    split at h2
    · rename_i hs
      simp only [Except.ok.injEq] at h2
      subst h2
      rw [← same_eq hs] at hb
      exact ⟨s, ha, hb⟩
    · cases h2
  · cases h2
theorem app_typed {f a : Tm} {G : List Ty} {S U : Ty} (hf : f.typ G = .ok (tyFun S U)) (ha : a.typ G = .ok S) : (Tm.mk 3 0 .zero [f, a]).typ G = .ok U := by
  rw [typ_node (by decide) rfl (typAll2 hf ha)]; simp [nodeTy, tyFun, same_rfl]
theorem inv_lam {i : Int} {S : Ty} {b : Tm} {G : List Ty} {U : Ty} (h : (Tm.mk 2 i S [b]).typ G = .ok U) : ∃ V, b.typ (G ++ [S]) = .ok V ∧ U = tyFun S V := by
  obtain ⟨ps, h1, h2⟩ := inv_inv (by decide) h
  rw [if_pos rfl] at h1
  obtain ⟨V, hb, rfl⟩ := typAll_one h1
  unfold nodeTy at h2
  rw [if_pos rfl] at h2
  have h2' : (if (tyFun S V).nodes ≤ 64 then Except.ok (tyFun S V) else Except.error 4) = (Except.ok U : Except Int Ty) := h2
  split at h2'
  · simp only [Except.ok.injEq] at h2'; exact ⟨V, hb, h2'.symm⟩
  · cases h2'
theorem inv_pair {i : Int} {T : Ty} {a c : Tm} {G : List Ty} {U : Ty} (h : (Tm.mk 10 i T [a, c]).typ G = .ok U) : ∃ A C, a.typ G = .ok A ∧ c.typ G = .ok C ∧ U = .mk 3 [A, C] := by
  obtain ⟨ps, h1, h2⟩ := inv_inv (by decide) h
  obtain ⟨A, C, ha, hc, rfl⟩ := typAll_two h1
  unfold nodeTy at h2
  rw [if_neg (by decide), if_neg (by decide), if_pos rfl] at h2
  split at h2
  · simp only [Except.ok.injEq] at h2; exact ⟨A, C, ha, hc, h2.symm⟩
  · cases h2
theorem inv_fst {i : Int} {T : Ty} {p : Tm} {G : List Ty} {U : Ty} (h : (Tm.mk 11 i T [p]).typ G = .ok U) : ∃ C, p.typ G = .ok (.mk 3 [U, C]) := by
  obtain ⟨ps, h1, h2⟩ := inv_inv (by decide) h
  obtain ⟨A, ha, rfl⟩ := typAll_one h1
  unfold nodeTy at h2
  rw [if_neg (by decide), if_neg (by decide), if_neg (by decide), if_pos rfl] at h2
  split at h2
  · rename_i a c he
    simp only [List.cons.injEq, and_true] at he
    simp only [Except.ok.injEq] at h2
    subst he h2
    exact ⟨c, ha⟩
  · cases h2
theorem inv_snd {i : Int} {T : Ty} {p : Tm} {G : List Ty} {U : Ty} (h : (Tm.mk 12 i T [p]).typ G = .ok U) : ∃ A, p.typ G = .ok (.mk 3 [A, U]) := by
  obtain ⟨ps, h1, h2⟩ := inv_inv (by decide) h
  obtain ⟨A, ha, rfl⟩ := typAll_one h1
  unfold nodeTy at h2
  rw [if_neg (by decide), if_neg (by decide), if_neg (by decide), if_neg (by decide), if_pos rfl] at h2
  split at h2
  · rename_i a c he
    simp only [List.cons.injEq, and_true] at he
    simp only [Except.ok.injEq] at h2
    subst he h2
    exact ⟨a, ha⟩
  · cases h2
/-- The other kinds: what their parts have, and what they have. -/
theorem inv_other {k i : Int} {T : Ty} {l : List Tm} {G : List Ty} {U : Ty} (h1 : k ≠ 1) (h2 : k ≠ 2) (h3 : k ≠ 3) (h4 : k ≠ 10) (h5 : k ≠ 11) (h6 : k ≠ 12) (h : (Tm.mk k i T l).typ G = .ok U) : typAll l G = .ok (argTys k T) ∧ U = ownTy k T := by
  obtain ⟨ps, hp, hn⟩ := inv_inv h1 h
  rw [if_neg h2] at hp
  unfold nodeTy at hn
  rw [if_neg h2, if_neg h3, if_neg h4, if_neg h5, if_neg h6] at hn
  split at hn
  · rename_i hs
    simp only [Except.ok.injEq] at hn
    rw [← sameAll_eq hs]
    exact ⟨hp, hn.symm⟩
  · cases hn
theorem inv_rec {i : Int} {T : Ty} {b f n : Tm} {G : List Ty} {U : Ty} (h : (Tm.mk 6 i T [b, f, n]).typ G = .ok U) : U = T ∧ b.typ G = .ok T ∧ f.typ G = .ok (tyFun tyNat (tyFun T T)) ∧ n.typ G = .ok tyNat := by
  obtain ⟨h1, h2⟩ := inv_other (by decide) (by decide) (by decide) (by decide) (by decide) (by decide) h
  obtain ⟨A, B, C, ha, hb, hc, he⟩ := typAll_three h1
  have he' : [T, tyFun tyNat (tyFun T T), tyNat] = [A, B, C] := he
  simp only [List.cons.injEq, and_true] at he'
  obtain ⟨rfl, rfl, rfl⟩ := he'
  exact ⟨h2, ha, hb, hc⟩
theorem inv_fold {i : Int} {T : Ty} {b f n : Tm} {G : List Ty} {U : Ty} (h : (Tm.mk 9 i T [b, f, n]).typ G = .ok U) : U = T ∧ b.typ G = .ok T ∧ f.typ G = .ok (tyFun tyNat (tyFun tyList (tyFun T T))) ∧ n.typ G = .ok tyList := by
  obtain ⟨h1, h2⟩ := inv_other (by decide) (by decide) (by decide) (by decide) (by decide) (by decide) h
  obtain ⟨A, B, C, ha, hb, hc, he⟩ := typAll_three h1
  have he' : [T, tyFun tyNat (tyFun tyList (tyFun T T)), tyList] = [A, B, C] := he
  simp only [List.cons.injEq, and_true] at he'
  obtain ⟨rfl, rfl, rfl⟩ := he'
  exact ⟨h2, ha, hb, hc⟩
theorem inv_succ {i : Int} {T : Ty} {n : Tm} {G : List Ty} {U : Ty} (h : (Tm.mk 5 i T [n]).typ G = .ok U) : U = tyNat ∧ n.typ G = .ok tyNat := by
  obtain ⟨h1, h2⟩ := inv_other (by decide) (by decide) (by decide) (by decide) (by decide) (by decide) h
  obtain ⟨A, ha, he⟩ := typAll_one h1
  have he' : [tyNat] = [A] := he
  simp only [List.cons.injEq, and_true] at he'
  subst he'
  exact ⟨h2, ha⟩
theorem inv_cons {i : Int} {T : Ty} {x y : Tm} {G : List Ty} {U : Ty} (h : (Tm.mk 8 i T [x, y]).typ G = .ok U) : U = tyList ∧ x.typ G = .ok tyNat ∧ y.typ G = .ok tyList := by
  obtain ⟨h1, h2⟩ := inv_other (by decide) (by decide) (by decide) (by decide) (by decide) (by decide) h
  obtain ⟨A, B, ha, hb, he⟩ := typAll_two h1
  have he' : [tyNat, tyList] = [A, B] := he
  simp only [List.cons.injEq, and_true] at he'
  obtain ⟨rfl, rfl⟩ := he'
  exact ⟨h2, ha, hb⟩
theorem other_typed {k i : Int} {T : Ty} {l : List Tm} {G : List Ty} (h1 : k ≠ 1) (h2 : k ≠ 2) (h3 : k ≠ 3) (h4 : k ≠ 10) (h5 : k ≠ 11) (h6 : k ≠ 12) (h : typAll l G = .ok (argTys k T)) : (Tm.mk k i T l).typ G = .ok (ownTy k T) := by
  rw [typ_node h1 (by rw [if_neg h2]) h]
  have hs : ∀ m : List Ty, sameAll m m = true := fun m => by induction m with
    | nil => rfl
    | cons a r ih => simp [sameAll, same_rfl, ih]
  unfold nodeTy
  rw [if_neg h2, if_neg h3, if_neg h4, if_neg h5, if_neg h6, if_pos (hs _)]

/-- A redex keeps its type. -/
theorem Red.typ {t u : Tm} (h : Red t u) {G : List Ty} {U : Ty} (ho : t.ok = true) (ht : t.typ G = .ok U) : u.typ G = .ok U := by
  cases h with
  | app i T j V b a =>
    obtain ⟨S, h1, h2⟩ := inv_app ht
    obtain ⟨W, h3, h4⟩ := inv_lam h1
    simp only [tyFun, Ty.mk.injEq, List.cons.injEq, and_true, true_and] at h4
    obtain ⟨rfl, rfl⟩ := h4
    have hb := ok_arg (ok_arg ho (a := .mk 2 j S [b]) (by simp)) (a := b) (by simp)
    have ha := ok_arg ho (a := a) (by simp)
    have := put_typ G S a ha h2 b [] (U := U) hb (by simpa using h3)
    simpa using this
  | zero => exact (inv_rec ht).1 ▸ (inv_rec ht).2.1
  | nil => exact (inv_fold ht).1 ▸ (inv_fold ht).2.1
  | succ i T b f j V n =>
    obtain ⟨rfl, h1, h2, h3⟩ := inv_rec ht
    have h4 := (inv_succ h3).2
    exact app_typed (app_typed h2 h4) (other_typed (k := 6) (T := U) (by decide) (by decide) (by decide) (by decide) (by decide) (by decide) (typAll3 h1 h2 h4))
  | cons i T b f j V x y =>
    obtain ⟨rfl, h1, h2, h3⟩ := inv_fold ht
    have h4 := (inv_cons h3).2
    exact app_typed (app_typed (app_typed h2 h4.1) h4.2) (other_typed (k := 9) (T := U) (by decide) (by decide) (by decide) (by decide) (by decide) (by decide) (typAll3 h1 h2 h4.2))
  | fst i T j V a c =>
    obtain ⟨C, h1⟩ := inv_fst ht
    obtain ⟨A, C', h2, _, h4⟩ := inv_pair h1
    simp only [Ty.mk.injEq, List.cons.injEq, and_true, true_and] at h4
    rw [h4.1]; exact h2
  | snd i T j V a c =>
    obtain ⟨A, h1⟩ := inv_snd ht
    obtain ⟨A', C', _, h3, h4⟩ := inv_pair h1
    simp only [Ty.mk.injEq, List.cons.injEq, and_true, true_and] at h4
    rw [h4.2]; exact h3
theorem typAll_set : ∀ {l : List Tm} {G ps : List Ty} {j : Nat} (hj : j < l.length) {u : Tm}, typAll l G = .ok ps → (∀ A, l[j].typ G = .ok A → u.typ G = .ok A) → typAll (l.set j u) G = .ok ps
  | a :: r, G, ps, 0, _, u, h, hu => by
    obtain ⟨A, qs, h1, h2, rfl⟩ := typAll_cons h
    simp only [List.set_cons_zero, typAll, hu A h1, h2]
  | a :: r, G, ps, j + 1, hj, u, h, hu => by
    obtain ⟨A, qs, h1, h2, rfl⟩ := typAll_cons h
    have := typAll_set (l := r) (j := j) (by simpa using hj) h2 (by simpa using hu)
    simp only [List.set_cons_succ, typAll, h1, this]
theorem Deep.typ {t u : Tm} (h : Deep t u) : ∀ {G : List Ty} {U : Ty}, t.ok = true → t.typ G = .ok U → u.typ G = .ok U := by
  induction h with
  | here h => intro G U ho ht; exact h.typ ho ht
  | arg k i T l j hj u h ih =>
    intro G U ho ht
    by_cases hk : k = 1
    · subst hk
      have hl := ok_len ho
      have hl : l.length = 0 := hl
      omega
    · obtain ⟨ps, h1, h2⟩ := inv_inv hk ht
      rw [typ_node hk rfl (typAll_set hj h1 fun A hA => ih (ok_arg ho (List.getElem_mem hj)) hA)]
      exact h2
theorem Steps.typ {B : Nat} {K : Int → Bool} {G : List Ty} {U : Ty} : ∀ {n : Nat} {t u : Tm}, Steps B K n t u → t.ok = true → t.typ G = .ok U → u.typ G = .ok U
  | 0, t, u, h, _, ht => by
    have e : t = u := h
    exact e ▸ ht
  | n + 1, t, u, h, ho, ht => by
    obtain ⟨v, h1, _, h3, _⟩ := h
    exact (next_deep v (h1.ok ho) h3).typ (h1.ok ho) (h1.typ ho ht)
end Go.Proofs.YtnodebcbnfkioaaDoor
namespace Go.Proofs.YtnodebcbnfkioaaDoor
open Go.RowKit Go.Maps

/-! Mathematics. -/
/-- The set with the free variables that have come. -/
def markD (D : DataW Unit) (xs : List (Int × Nat)) : DataW Unit := xs.foldl (fun D x => if (x.2 : Int) ≤ x.1 then D.put (.int .i64 (x.1 - x.2)) (.lit (.bool true)) else D) D
theorem markD_append (D : DataW Unit) (xs ys : List (Int × Nat)) : markD D (xs ++ ys) = markD (markD D xs) ys := by simp [markD]
theorem keyInt (n : Int) : WideAt.IsKeyLit (.int .i64 n) := trivial
theorem markD_facts : ∀ (n : Nat) (xs : List (Int × Nat)), xs.length = n → Tidy (markD (.map []) xs) ∧ Maps.size (markD (.map []) xs) ≤ xs.length ∧ ∀ z : Int, has (markD (.map []) xs) (.int .i64 z) = true ↔ ∃ y ∈ xs, (y.2 : Int) ≤ y.1 ∧ z = y.1 - y.2 := by
  intro n
  induction n with
  | zero =>
    intro xs h
    obtain rfl := List.eq_nil_of_length_eq_zero h
    exact ⟨tidy_empty, by simp [markD, Maps.size], fun z => by simp [markD, Maps.has]⟩
  | succ n ih =>
    intro xs h
    rcases List.eq_nil_or_concat xs with rfl | ⟨pre, x, rfl⟩
    · simp at h
    · simp only [List.concat_eq_append] at h ⊢
      obtain ⟨h1, h2, h3⟩ := ih pre (by simp at h; exact h)
      have e : markD (.map []) (pre ++ [x]) = if (x.2 : Int) ≤ x.1 then (markD (.map []) pre).put (.int .i64 (x.1 - x.2)) (.lit (.bool true)) else markD (.map []) pre := by rw [markD_append]; rfl
      rw [e]
      by_cases hx : (x.2 : Int) ≤ x.1
      · rw [if_pos hx]
        refine ⟨h1.put (keyInt _) _, ?_, fun z => ?_⟩
        · have := size_put (k := .int .i64 (x.1 - x.2)) h1 (.lit (.bool true))
          rw [this]
          simp only [List.length_append, List.length_cons, List.length_nil]
          split <;> omega
        · by_cases hz : z = x.1 - x.2
          · subst hz
            rw [has_put_same h1.isMap (keyInt _)]
            exact ⟨fun _ => ⟨x, by simp, hx, rfl⟩, fun _ => rfl⟩
          · rw [has_put_other (fun e => hz (by simpa using e)), h3]
            constructor
            · rintro ⟨y, hy, h⟩; exact ⟨y, by simp [hy], h⟩
            · rintro ⟨y, hy, h⟩
              rcases List.mem_append.1 hy with hy | hy
              · exact ⟨y, hy, h⟩
              · rw [List.mem_singleton.1 hy] at h; exact (hz h.2).elim
      · rw [if_neg hx]
        refine ⟨h1, by simp; omega, fun z => ?_⟩
        rw [h3]
        constructor
        · rintro ⟨y, hy, h⟩; exact ⟨y, by simp [hy], h⟩
        · rintro ⟨y, hy, h⟩
          rcases List.mem_append.1 hy with hy | hy
          · exact ⟨y, hy, h⟩
          · rw [List.mem_singleton.1 hy] at h; exact (hx h.1).elim
/-- What was gathered of the keys. -/
def Gath (D : DataW Unit) (left : Lit → Bool) (ss : List Int) : Prop := ∀ x, x ∈ ss ↔ (has D (.int .i64 x) = true ∧ left (.int .i64 x) = false)
theorem gath_start (D : DataW Unit) : Gath D (has D) [] := fun x => by cases has D (.int .i64 x) <;> simp
theorem gath_step {D : DataW Unit} {left : Lit → Bool} {ss ss' : List Int} {x : Int} {y : DataW Unit} (h : Gath D left ss) (hlk : left (.int .i64 x) = true) (hat : ∀ zd, D.atKey (.int .i64 x) zd = y) (hs : ∀ z, z ∈ ss' ↔ z = x ∨ z ∈ ss) :
    Gath D (fun z => left z && !z.sameKey (.int .i64 x)) ss' := by
  have hhas : has D (.int .i64 x) = true := has_true_of_atKey hat
  intro z
  rw [hs]
  by_cases hz : z = x
  · subst hz; simp [hhas, Lit.sameKey]
  · simp [h z, hz, Lit.sameKey]
theorem ins_start (ss : List Int) (x : Int) : ss ++ [x] = ss.take ss.length ++ x :: ss.drop ss.length := by simp
theorem ins_get {ss : List Int} {k : Nat} {c : Int} (hk : k < ss.length) : (ss.take (k + 1) ++ c :: ss.drop (k + 1))[k]? = some ss[k] := by
  rw [List.getElem?_append_left (by simp; omega), List.getElem?_take, if_pos (by omega), List.getElem?_eq_getElem hk]
theorem ins_at {ss : List Int} {k : Nat} {c : Int} (hk : k ≤ ss.length) : (ss.take k ++ c :: ss.drop k)[k]? = some c := by
  have h1 : (ss.take k).length = k := by simp; omega
  rw [List.getElem?_append_right (by omega), h1]
  simp
theorem ins_step {ss : List Int} {k : Nat} {c : Int} (hk : k < ss.length) : (ss.take (k + 1) ++ c :: ss.drop (k + 1)).set (k + 1) ss[k] = ss.take k ++ ss[k] :: ss.drop k := by
  have h1 : (ss.take (k + 1)).length = k + 1 := by simp; omega
  rw [List.set_append_right _ _ (by omega), h1, Nat.sub_self, List.set_cons_zero, List.take_succ_eq_append_getElem hk, List.drop_eq_getElem_cons hk, List.append_assoc]
  rfl
theorem ins_end {ss : List Int} {k : Nat} {c x : Int} (hk : k ≤ ss.length) : ∀ z, z ∈ (ss.take k ++ c :: ss.drop k).set k x ↔ z = x ∨ z ∈ ss := by
  intro z
  have h1 : (ss.take k).length = k := by simp; omega
  rw [List.set_append_right _ _ (by omega), h1, Nat.sub_self, List.set_cons_zero]
  conv => rhs; rw [← List.take_append_drop k ss]
  simp only [List.mem_append, List.mem_cons]
  constructor
  · rintro (h | h | h)
    · exact .inr (.inl h)
    · exact .inl h
    · exact .inr (.inr h)
  · rintro (h | h | h)
    · exact .inr (.inl h)
    · exact .inl h
    · exact .inr (.inr h)
theorem ins_len {ss : List Int} {k : Nat} {c : Int} (hk : k ≤ ss.length) : (ss.take k ++ c :: ss.drop k).length = ss.length + 1 := by simp; omega

/-! The walks. -/
theorem below3_any (k i : Int) (x y z : Value) (w : World) : Calls Tryd.prog 102 #[.agg #[.int .i64 k, .int .i64 i, x, y, z]] w fun e w' => e = .returned (.int .i64 ((if k = 2 then 1 else 0 : Nat) : Int)) ∧ Below w.heap.size w w' := by
  by_cases hk : k = 2
  · subst hk
    go_enter Tryd.func102, Tryd.ntmps102
    go_wp2_with fail
    go_ret
    exact ⟨by simp, (Below.refl _ _).alloc (Nat.le_refl _) _⟩
  · have e1 : (k == 2) = false := by simpa using hk
    rw [if_neg hk]
    clear hk
    go_enter Tryd.func102, Tryd.ntmps102
    go_wp2_with fail
    go_ret
    exact ⟨rfl, (Below.refl _ _).alloc (Nat.le_refl _) _⟩
/-- The set of small numbers in block b. -/
def OwnsZ (w : World) (b n : Nat) (D : DataW Unit) : Prop := w.ownsMap Tryd.prog 3 (plainElem (H := Unit) Tryd.prog 4) b n D
theorem OwnsZ.kept {w w' : World} {b n : Nat} {D : DataW Unit} (h : OwnsZ w b n D) (hb : w'.heap[b]? = w.heap[b]?) : OwnsZ w' b n D := by
  obtain ⟨es, ck, hh, hF, hs, hD⟩ := h
  exact ⟨es, ck, hb.trans hh, hF, hs, hD⟩
theorem OwnsZ.mono {w : World} {b n m : Nat} {D : DataW Unit} (h : OwnsZ w b n D) (hn : n ≤ m) : OwnsZ w b m D := by
  obtain ⟨es, ck, hh, hF, hs, hD⟩ := h
  exact ⟨es, ck, hh, hF, Nat.le_trans hs hn, hD⟩
theorem OwnsZ.lt {w : World} {b n : Nat} {D : DataW Unit} (h : OwnsZ w b n D) : b < w.heap.size := by
  obtain ⟨es, ck, hh, _⟩ := h
  exact (Array.getElem?_eq_some_iff.1 hh).1
def MarkR (b m : Nat) (D : DataW Unit) (w : World) (e : Ending) (w' : World) : Prop := e = .returned (.tuple #[]) ∧ OwnsZ w' b m D ∧ Turn (· = b) w w'

theorem varsAll_take_len {l : List Tm} {j : Nat} (hj : j < l.length) (d : Nat) : (varsAll (l.take (j + 1)) d).length = (varsAll (l.take j) d).length + (l[j].vars d).length := by rw [varsAll_take hj, List.length_append]
theorem bulkAll_take_le {l : List Tm} {j : Nat} (hj : j < l.length) : bulkAll (l.take j) + l[j].bulk ≤ bulkAll l := by
  have h : bulkAll l = bulkAll (l.take (j + 1)) + bulkAll (l.drop (j + 1)) := by conv => lhs; rw [← List.take_append_drop (j + 1) l, bulkAll_append]
  rw [h, List.take_succ_eq_append_getElem hj, bulkAll_append]
  simp only [bulkAll]
  omega
set_option maxRecDepth 100000 in
set_option maxHeartbeats 4000000 in
theorem mark_any (b : Nat) (N : Nat) : ∀ (t : Tm) (v : Value) (d m : Nat) (D : DataW Unit) (w : World), t.bulk ≤ N → d + N ≤ 400000 → t.ok = true → t.low 1000000 = true → m + t.bulk ≤ 400000 → IsTm (Good (· = b) w) w t v → OwnsZ w b m D →
    Calls Tryd.prog 65 #[v, .int .i64 d, .map (some b)] w (MarkR b (m + (t.vars d).length) (markD D (t.vars d)) w) := by
  induction N with
  | zero => intro t; have := bulk_pos t; omega
  | succ N ih =>
    rintro ⟨k, i, T, la⟩ v d m D w hN hd hok hlow hm hT hD
    have IH := Lib.hid ih
    clear ih
    obtain ⟨Bt, d0, A, a0, rfl, hty, hl⟩ := hT.mk_parts
    simp only [Tm.bulk] at hN hm
    have b1 := below_box w (Obj.cells #[.int .i64 k, .int .i64 i, .int .i64 T.kind, .slice Bt T.args.length d0, .slice A la.length a0] 34)
    have hbw := hD.lt
    by_cases hk : k = 1
    · subst hk
      obtain rfl : la = [] := var_nil hok
      have hi0 := vars_nat _ d hok (i, d) (by rw [vars_mk, if_pos rfl]; simp)
      have hi1 := (low_mk.1 hlow).1
      simp only at hi0
      have HM := Lib.hid (show m + ((Tm.mk 1 i T []).vars d).length = m + 1 by rw [vars_mk, if_pos rfl]; rfl)
      have HV := Lib.hid (show markD D ((Tm.mk 1 i T []).vars d) = if (d : Int) ≤ i then D.put (.int .i64 (i - d)) (.lit (.bool true)) else D by rw [vars_mk, if_pos rfl]; rfl)
      obtain ⟨W, hW⟩ : ∃ W, W = w.alloc (Obj.cells #[.int .i64 1, .int .i64 i, .int .i64 T.kind, .slice Bt T.args.length d0, .slice A 0 a0] 34) := ⟨_, rfl⟩
      have hb1 : Below w.heap.size w W := by rw [hW]; exact b1
      have HB := Lib.hid hb1
      have hD1 : OwnsZ W b m D := hD.kept (hb1.block b hbw)
      have k0 : Blk W w.heap.size 34 #[.int .i64 1, .int .i64 i, .int .i64 T.kind, .slice Bt T.args.length d0, .slice A 0 a0] := by rw [hW]; exact Blk.new _ _ _
      obtain ⟨r0, r1, r2, r3, r4, _, _, _, _, _⟩ := k0.facts5
      have HK0 := Lib.hid k0
      clear hT hl hty hok hlow hD b1 hb1 k0
      by_cases hge : (d : Int) ≤ i
      · have e1 : decide (i ≥ (d : Int)) = true := decide_eq_true hge
        have e2 : decide ((d : Int) ≤ i) = true := decide_eq_true hge
        have hwf : (Lit.int .i64 (i - d)).wf = true := WalkArith.wf_i64 (by omega)
        go_enter Tryd.func65, Tryd.ntmps65
        go_upto_region 1 with fail
        rw [← hW]
        clear hW
        go_upto_region 3 with (at_mapUpdate; refine wpList_mapUpdate_own _ rfl _ _ _ 41 rfl 3 4 (Maps.int_keyed Tryd.underlying3) Tryd.underlying41 _ b m _ rfl hD1 (by unfold maxLen; omega) _ _ _ rfl rfl (Maps.keyOf_int_mk Tryd.underlying3 hwf) _ [] (plainElem_bool Tryd.underlying4 true) ?_; intro w3 hown3 hgrow3)
        clear r0 r1 r2 r3 r4
        have HX := Lib.hid (show OwnsZ w3 b (m + 1) (markD D ((Tm.mk 1 i T []).vars d)) ∧ Turn (· = b) w w3 from ⟨by rw [HV.out, if_pos hge]; exact hown3, (Turn.call HB.out).trans (Turn.grown hgrow3 fun k e => by cases e; rfl)⟩)
        obtain ⟨y0, y1, y2, y3, y4, _, _, _, _, _⟩ := (HK0.out.grown hgrow3 (fun e => by cases e; omega)).facts5
        go_wp2_with fail
        go_loopw [25] (fun ix wr => ix = .int .i64 0 ∧ wr = w3) (fun _ _ => 0)
        case atStart => exact ⟨rfl, rfl⟩
        case round =>
          obtain ⟨rfl, rfl⟩ := hrel
          go_wp2_with fail
          exact bodyPost_ret (v := .tuple #[]) (by simp [results, Tryd.results65, go_sem]) rfl ⟨rfl, by rw [HM.out]; exact HX.out.1, HX.out.2⟩
      · have e1 : decide (i ≥ (d : Int)) = false := decide_eq_false hge
        have e2 : decide ((d : Int) ≤ i) = false := decide_eq_false hge
        go_enter Tryd.func65, Tryd.ntmps65
        go_upto_region 1 with fail
        rw [← hW]
        clear hW
        go_upto_region 3 with fail
        clear r0 r1 r2 r3 r4
        have HX := Lib.hid (show OwnsZ W b (m + 1) (markD D ((Tm.mk 1 i T []).vars d)) ∧ Turn (· = b) w W from ⟨by rw [HV.out, if_neg hge]; exact hD1.mono (by omega), Turn.call HB.out⟩)
        obtain ⟨y0, y1, y2, y3, y4, _, _, _, _, _⟩ := (HK0.out).facts5
        go_wp2_with fail
        go_loopw [25] (fun ix wr => ix = .int .i64 0 ∧ wr = W) (fun _ _ => 0)
        case atStart => exact ⟨rfl, rfl⟩
        case round =>
          obtain ⟨rfl, rfl⟩ := hrel
          go_wp2_with fail
          exact bodyPost_ret (v := .tuple #[]) (by simp [results, Tryd.results65, go_sem]) rfl ⟨rfl, by rw [HM.out]; exact HX.out.1, HX.out.2⟩
    · have e1 : (k == 1) = false := by simpa using hk
      obtain ⟨d', hd'⟩ : ∃ d' : Nat, d' = (if k = 2 then d + 1 else d) := ⟨_, rfl⟩
      have hv : (Tm.mk k i T la).vars d = varsAll la d' := by rw [vars_mk, if_neg hk, ← hd']
      rw [hv]
      have hdd : d' ≤ d + 1 := by rw [hd']; split <;> omega
      obtain ⟨qq, hqq⟩ : ∃ qq : Nat, qq = (if k = 2 then 1 else 0) := ⟨_, rfl⟩
      have HD' := Lib.hid (show (d : Int) + (qq : Int) = (d' : Int) by rw [hd', hqq]; split <;> simp)
      have HQQ := Lib.hid hqq
      have hll := bulkAll_len la
      have hvb := varsAll_bulk la d'
      have HOK := Lib.hid (And.intro hok hlow)
      obtain ⟨W, hW⟩ : ∃ W, W = w.alloc (Obj.cells #[.int .i64 k, .int .i64 i, .int .i64 T.kind, .slice Bt T.args.length d0, .slice A la.length a0] 34) := ⟨_, rfl⟩
      have hb1 : Below w.heap.size w W := by rw [hW]; exact b1
      have hzW : W.heap.size = w.heap.size + 1 := by rw [hW]; simp
      have k0 : Blk W w.heap.size 34 #[.int .i64 k, .int .i64 i, .int .i64 T.kind, .slice Bt T.args.length d0, .slice A la.length a0] := by rw [hW]; exact Blk.new _ _ _
      have HB := Lib.hid (And.intro hb1 (hD.kept (hb1.block b hbw) : OwnsZ W b m D))
      have HL := Lib.hid hl
      obtain ⟨r0, r1, r2, r3, r4, _, _, _, _, _⟩ := k0.facts5
      have HK0 := Lib.hid k0
      have hbne : w.heap.size ≠ b := by omega
      clear hk hd' hv hqq hT hty hl hok hlow hD b1 hb1 k0
      go_enter Tryd.func65, Tryd.ntmps65
      go_upto_region 1 with fail
      rw [← hW]
      clear hW
      go_wp2_with fail
      clear r0 r1 r2 r3 r4
      go_loopw [25] (fun ix wr => ∃ j : Nat, j ≤ la.length ∧ ix = .int .i64 j ∧ OwnsZ wr b (m + (varsAll (la.take j) d').length) (markD D (varsAll (la.take j) d')) ∧ Turn (· = b) W wr) (fun ix _ => la.length - (intOf ix).toNat)
      case atStart => exact ⟨0, by omega, rfl, by simpa [varsAll, markD] using HB.out.2, Turn.refl _ _⟩
      case round =>
        obtain ⟨j, hj, rfl, hown, htr⟩ := hrel
        have HO := Lib.hid hown
        have HT := Lib.hid htr
        have hzr := htr.size
        clear hown htr
        by_cases hlt : j < la.length
        · have hlr := ((HL.out.turn (Turn.call HB.out.1) (Y := (· = b))).turn HT.out (Y := (· = b)))
          obtain ⟨a, rfl, ha, hat⟩ := hlr.get j hlt
          obtain ⟨B1, d1, A1, c1, q0, q1, q2, q3, q4, hx⟩ := at_tm hat
          change wr.cell? (a.add (j * 5)) = _ at q0
          simp only [show TmR.n = 5 from rfl] at q1 q2 q3 q4
          have HX := Lib.hid hx
          have hbj := bulkAll_get la j hlt
          have hvt := varsAll_bulk (la.take j) d'
          have hbt := bulkAll_take_le hlt
          clear hx hat hlr
          go_upto_region 6 with fail
          obtain ⟨bR, zR, kR⟩ := new_blk (Below.refl wr.heap.size wr) (Nat.le_refl _) #[.int .i64 la[j].kind, .int .i64 la[j].index, .int .i64 la[j].type.kind, .slice B1 la[j].type.args.length d1, .slice A1 la[j].args.length c1] 34
          have k0R : Blk (wr.alloc (Obj.cells #[.int .i64 la[j].kind, .int .i64 la[j].index, .int .i64 la[j].type.kind, .slice B1 la[j].type.args.length d1, .slice A1 la[j].args.length c1] 34)) w.heap.size 34 #[.int .i64 k, .int .i64 i, .int .i64 T.kind, .slice Bt T.args.length d0, .slice (some a) la.length a0] := (HT.out.blk HK0.out hbne).alloc _
          generalize wr.alloc (Obj.cells #[.int .i64 la[j].kind, .int .i64 la[j].index, .int .i64 la[j].type.kind, .slice B1 la[j].type.args.length d1, .slice A1 la[j].args.length c1] 34) = R at bR zR kR k0R ⊢
          have nR : wr.heap.size ≠ b := by omega
          have HSK := Lib.hid fun (w' : World) (h : Turn (· = b) R w') => And.intro (h.blk kR nR).facts5.1 (And.intro (h.blk kR nR).facts5.2.1 (And.intro (h.blk kR nR).facts5.2.2.1 (And.intro (h.blk kR nR).facts5.2.2.2.1 (And.intro (h.blk kR nR).facts5.2.2.2.2.1 (And.intro (h.blk k0R hbne).facts5.1 (And.intro (h.blk k0R hbne).facts5.2.1 (And.intro (h.blk k0R hbne).facts5.2.2.1 (And.intro (h.blk k0R hbne).facts5.2.2.2.1 (h.blk k0R hbne).facts5.2.2.2.2.1))))))))
          obtain ⟨y0, y1, y2, y3, y4, y5, y6, y7, y8, y9⟩ := HSK.out R (Turn.refl _ _)
          have QD := Lib.hid (Turn.drew (X := (· = b)) R)
          have BR := Lib.hid (HO.out.kept (bR.block b (by omega)))
          have XR := Lib.hid (show IsTm (Good (· = b) R) R la[j] _ from TmR.turn HX.out (Turn.call bR) (Y := (· = b)))
          have TR := Lib.hid (HT.out.trans (Turn.call bR))
          have hdw : IntKind.i64.wrap ((d : Int) + (qq : Int)) = (d' : Int) := by rw [HD'.out]; exact IntWalk.i64_in _ (by omega)
          have QO := Lib.hid (And.intro (okAllT_get (ok_parts HOK.out.1) j hlt) (lowAll_get (low_mk.1 HOK.out.2).2 j hlt))
          clear zR bR kR k0R q0 q1 q2 q3 q4
          go_region_held3 (fun w' => w'.cell? ⟨wr.heap.size, 0, none⟩ = some (.int .i64 la[j].kind) ∧ w'.cell? ⟨wr.heap.size, 1, none⟩ = some (.int .i64 la[j].index) ∧ w'.cell? ⟨wr.heap.size, 2, none⟩ = some (.int .i64 la[j].type.kind) ∧ w'.cell? ⟨wr.heap.size, 3, none⟩ = some (.slice B1 la[j].type.args.length d1) ∧ w'.cell? ⟨wr.heap.size, 4, none⟩ = some (.slice A1 la[j].args.length c1) ∧ w'.cell? ⟨w.heap.size, 0, none⟩ = some (.int .i64 k) ∧ w'.cell? ⟨w.heap.size, 1, none⟩ = some (.int .i64 i) ∧ w'.cell? ⟨w.heap.size, 2, none⟩ = some (.int .i64 T.kind) ∧ w'.cell? ⟨w.heap.size, 3, none⟩ = some (.slice Bt T.args.length d0) ∧ w'.cell? ⟨w.heap.size, 4, none⟩ = some (.slice (some a) la.length a0))
            (first | with_reducible exact HSK.out _ QD.out | with_reducible exact HSK.out _ T5.out | with_reducible exact HSK.out _ T6.out)
            (first
              | (go_at_call 65
                 have P6 := IH.out la[j] _ d' (m + (varsAll (la.take j) d').length) (markD D (varsAll (la.take j) d')) w5 (by omega) (by omega) QO.out.1 QO.out.2 (by have := varsAll_bulk (la.take j) d'; omega) (TmR.turn XR.out T5.out (Y := (· = b))) (BR.out.kept (B5.out.block b (by have := BR.out.lt; omega)))
                 (with_reducible refine P6.mono ?_)
                 rintro e w6 ⟨rfl, o6, t6⟩
                 clear P6
                 have T6 := Lib.hid (T5.out.trans t6)
                 have O6 := Lib.hid o6
                 clear o6 t6)
              | (go_at_call 102
                 have P5 := below3_any k i (.int .i64 T.kind) (.slice Bt T.args.length d0) (.slice (some a) la.length a0) R.drew
                 rw [← HQQ.out] at P5
                 (with_reducible refine P5.mono ?_)
                 rintro e w5 ⟨rfl, r5⟩
                 clear P5
                 have B5 := Lib.hid (show Below R.heap.size R w5 from ((Below.refl _ R).drew).trans r5)
                 have T5 := Lib.hid (show Turn (· = b) R w5 from QD.out.trans (Turn.call r5))
                 clear r5))
          clear y0 y1 y2 y3 y4 y5 y6 y7 y8 y9
          have KF := Lib.hid (TR.out.trans T6.out)
          have ho := O6.out
          rw [← markD_append, ← varsAll_take hlt, Nat.add_assoc, ← varsAll_take_len hlt] at ho
          go_wp2_with fail
          exact ⟨⟨j + 1, by omega, by go_num, ho, KF.out⟩, by simp [intOf]; omega⟩
        · obtain rfl : j = la.length := by omega
          go_wp2_with fail
          rw [List.take_length] at HO
          exact bodyPost_ret (v := .tuple #[]) (by simp [results, Tryd.results65, go_sem]) rfl ⟨rfl, HO.out, (Turn.call HB.out.1).trans HT.out⟩

/-- How the outer loop stands. -/
def SortI (w : World) (b m : Nat) (D : DataW Unit) (s : Value) (wr : World) : Prop :=
  ∃ (left : Lit → Bool) (cnt : Nat) (ss : List Int), wr.ranges Tryd.prog 3 (plainElem (H := Unit) Tryd.prog 4) b w.heap.size m D left cnt ∧ Gath D left ss ∧ ss.length + cnt ≤ Maps.size D ∧
    wr.ownsRow (w.heap.size + 1) 3 1 s ss.length (ss.map (Value.int .i64)) ∧ Below w.heap.size w wr

set_option maxRecDepth 100000 in
set_option maxHeartbeats 4000000 in
theorem sorted3_any {b m : Nat} {D : DataW Unit} {w : World} (hown : OwnsZ w b m D) (hs : Maps.size D ≤ 400000) :
    Calls Tryd.prog 66 #[.map (some b)] w fun e w' => ∃ (v : Value) (ss : List Int), e = .returned v ∧ (∀ x : Int, x ∈ ss ↔ has D (.int .i64 x) = true) ∧ ss.length ≤ 400000 ∧ w'.ownsRow w.heap.size 3 1 v ss.length (ss.map (Value.int .i64)) ∧ Below w.heap.size w w' := by
  have HO := Lib.hid hown
  have hbw := hown.lt
  clear hown
  go_enter Tryd.func66, Tryd.ntmps66
  go_wp2_with (first | (at_range; refine wpList_range_own _ rfl _ 41 rfl 3 4 (Maps.int_keyed Tryd.underlying3) Tryd.underlying41 (plainElem (H := Unit) Tryd.prog 4) b m D rfl HO.out ?_; intro w0 hrg0 hg0 hs0) | go_in)
  go_frame
  go_loopw [3] (fun s wr => SortI w b m D s wr) (fun _ wr => wr.rangeLeft b w.heap.size)
  case atStart => exact ⟨has D, Maps.size D, [], hrg0, gath_start D, by simp, World.ownsRow_nil _ _ _ _, (Below.refl _ _).grown hg0 (Nat.le_refl _) (fun g e => by cases e)⟩
  case round =>
    obtain ⟨left, cnt, ss, hrg, hG, hsz, hrow, hbel⟩ := hrel
    have HG := Lib.hid hG
    have HR := Lib.hid hrow
    have HB := Lib.hid hbel
    clear hG hrow hbel hg0 hrg0
    go_wp2_with (first
      | (at_next; refine wpList_next_ranges _ rfl _ rfl 3 (Maps.int_keyed Tryd.underlying3) (plainElem (H := Unit) Tryd.prog 4) (Value.int .i64) (fun v : Value => v) (fun key kl hkey => by obtain ⟨x, rfl, _⟩ := Maps.keyOf_int_inv Tryd.underlying3 hkey; exact ⟨x, rfl⟩) (fun v _ _ => ⟨v, rfl⟩) b w.heap.size m D left cnt rfl hrg ?_ ?_)
      | go_in)
    · intro hc0 hl0
      go_wp2_with fail
      go_ret
      exact ⟨_, ss, rfl, fun x => by rw [HG.out x, hl0]; simp, by omega, World.ownsRow.mono HR.out (Nat.le_succ _), HB.out⟩
    · intro x c kl y pl w1 cnt1 hkx hlx _ hat hrg1 hlt hg1 hs1 hen
      obtain ⟨x', e', rfl, hwf⟩ := Maps.keyOf_int_inv Tryd.underlying3 hkx
      simp only [Value.int.injEq, true_and] at e'
      subst e'
      have hr1 := HR.out.kept hg1 (by
        cases hv : u3.ownBlock with
        | none => exact .inl rfl
        | some g => exact .inr fun e => by have := (HR.out.lt g hv).1; cases e; omega)
      have hb1 : Below w.heap.size w w1 := HB.out.grown hg1 HB.out.size (fun g e => by cases e; exact Nat.le_refl _)
      obtain ⟨Au, cu, rfl⟩ : ∃ A c, u3 = .slice A ss.length c := by
        rcases hr1.2 with ⟨rfl, hn⟩ | ⟨g, cap, cur, rfl, _⟩
        · exact ⟨none, 0, by rw [hn]⟩
        · exact ⟨_, cap, rfl⟩
      obtain ⟨i0, hi, hz0, hz1, hz2⟩ := info_parts info_int
      have hx1 := hr1.alloc (Obj.cells #[.int .i64 x] 3)
      have hzb := hb1.size
      have HX1 := Lib.hid (And.intro hx1 (And.intro hr1 hs1))
      clear hr1 hs1
      go_upto_region 7 with (first
        | (at_builtin; go_loud (refine wpList_append_own_at _ rfl _ _ 22 rfl (w.heap.size + 1) 3 i0 _ 1 8 Tryd.underlying22 hi hz0 hz1 hz2 rfl (by decide) (.slice Au ss.length cu) ss.length (ss.map (Value.int .i64)) rfl hx1 ⟨w1.heap.size, 0, none⟩ 1 1 [_] rfl rfl (cells_new _ _ _) (by simp [Value.oneCell']) (by simp only [maxLen]; omega) (by omega) (by simp; omega) ?_); intro v2 w2 hown2 hg2 hnil2 hat2)
        | go_in)
      obtain ⟨g, cap, cs, rfl, hgb, hgh, hcap, _⟩ := hown2.2.resolve_left (fun h => by have := h.2; omega)
      have hown3 : w2.ownsRow (w.heap.size + 1) 3 1 (.slice (some ⟨g, 0, none⟩) (ss.length + 1) cap) (ss.length + 1) ((ss ++ [x]).map (Value.int .i64)) := by simpa using hown2
      have hb2 : Below w.heap.size w w2 := (hb1.alloc hb1.size _).grown hg2 (by have := hb1.size; simp; omega) (fun k e => by have := (HR.out.lt k e).1; omega)
      have hrg2 := (hrg1.alloc (Obj.cells #[.int .i64 x] 3)).kept hg2 (fun e => by have := (HR.out.lt b e.symm).1; omega) (fun e => by have := (HR.out.lt _ e.symm).1; omega)
      have HRG := Lib.hid hrg2
      have HH := Lib.hid (And.intro hown3 hb2)
      have HG3 := Lib.hid (And.intro (gath_step (ss' := ss ++ [x]) HG.out hlx hat (fun z => by simp [or_comm])) (And.intro hlx hat))
      have hgl : g < w2.heap.size := (Array.getElem?_eq_some_iff.1 hgh).1
      clear hown2 hown3 hb2 hg2 hat2 hnil2 hgh hcap hrg2 hrg1
      go_loopw [5] (fun i w3 => ∃ (k : Nat) (c : Int), k ≤ ss.length ∧ i = .int .i64 k ∧ w3.ownsRow (w.heap.size + 1) 3 1 (.slice (some ⟨g, 0, none⟩) (ss.length + 1) cap) (ss.length + 1) ((ss.take k ++ c :: ss.drop k).map (Value.int .i64)) ∧ w2.grownBy w3 (some g)) (fun i _ => (intOf i).toNat)
      case atStart => exact ⟨ss.length, x, Nat.le_refl _, rfl, by rw [← ins_start]; exact HH.out.1, only_refl _ _⟩
      case round =>
        obtain ⟨k, c, hk, rfl, hown, hg3⟩ := hrel
        rename World => w3
        have hw3 := hg3.size
        have HOW := Lib.hid (And.intro hown hg3)
        have hfz := hown.frozenAt
        have hc1 := hown.cellAt k (by omega)
        rw [List.getElem?_map, ins_at hk] at hc1
        have hcell : ∀ j (hj : j + 1 = k), w3.cell? ⟨g, j, none⟩ = some (.int .i64 (ss[j]'(by omega))) := fun j hj => by
          subst hj
          rw [hown.cellAt j (by omega), List.getElem?_map, ins_get (by omega)]
          rfl
        have hfin : SortI w b m D (.slice (some ⟨g, 0, none⟩) (ss.length + 1) cap) (w3.setCell ⟨g, k, none⟩ (.int .i64 x)) ∧ (w3.setCell ⟨g, k, none⟩ (.int .i64 x)).rangeLeft b w.heap.size < wr.rangeLeft b w.heap.size := by
          have hst := hown.stored k (.int .i64 x)
          have hg4 := only_trans hg3 hst.2
          have hr4 := HRG.out.kept hg4 (by simp; omega) (by simp; omega)
          refine ⟨⟨_, cnt1, (ss.take k ++ c :: ss.drop k).set k x, hr4, gath_step HG.out hlx hat (ins_end hk), ?_, ?_, HH.out.2.grown hg4 HH.out.2.size (fun k e => by cases e; omega)⟩, by rw [hr4.left_eq, hrg.left_eq]; exact hlt⟩
          · rw [List.length_set, ins_len hk]; omega
          · rw [List.length_set, ins_len hk, List.map_set]; exact hst.1
        have HFIN := Lib.hid hfin
        have HCELL := Lib.hid hcell
        clear hown hg3 hfin hcell
        rcases Nat.eq_zero_or_pos k with rfl | hkp
        · have f0 := hfz 0
          have hge : ((0 : Nat) : Int) ≤ 0 := by simp
          go_wp2_with fail
          exact HFIN.out
        · obtain ⟨k, rfl⟩ : ∃ k', k = k' + 1 := ⟨k - 1, by omega⟩
          have hkl : k < ss.length := by omega
          have c0 := HCELL.out k rfl
          have f0 := hfz (k + 1)
          by_cases hx : ss[k] > x
          · have e1 : decide (ss[k] > x) = true := decide_eq_true hx
            go_wp2_with fail
            have hst := HOW.out.1.stored (k + 1) (.int .i64 ss[k])
            refine ⟨⟨k, ss[k], by omega, by go_num, ?_, only_trans HOW.out.2 hst.2⟩, by simp [intOf]⟩
            rw [← ins_step hkl, List.map_set]
            exact hst.1
          · have e1 : decide (ss[k] > x) = false := decide_eq_false hx
            go_wp2_with fail
            exact HFIN.out

theorem made_map (w : World) : OwnsZ (w.alloc (.map #[] 0)) w.heap.size 0 (.map []) := World.ownsMap_made w Tryd.prog 3 (plainElem (H := Unit) Tryd.prog 4)

set_option maxRecDepth 100000 in
set_option maxHeartbeats 2000000 in
theorem refUses_any (t : Tm) (v : Value) (w : World) (hok : t.ok = true) (hn : t.bulk ≤ 390000) (hsz : t.size ≤ 4096) (hlow : t.low 1000000 = true) (hT : IsTm (· < w.heap.size) w t v) :
    Calls Tryd.prog 23 #[v] w fun e w' => ∃ (s : Value) (L : List Int), e = .returned (.tuple #[s, .int .i64 0]) ∧ (∀ x, x ∈ L ↔ FreeIn (t.vars 0) x) ∧ L.length ≤ 400000 ∧ w'.ownsRow w.heap.size 3 1 s L.length (L.map (Value.int .i64)) ∧ Below w.heap.size w w' := by
  obtain ⟨Bt, d, A, c, rfl, _⟩ := hT.form
  have hmm := @run_makeMap Tryd.prog
  have HT := Lib.hid (And.intro hT (And.intro hok hlow))
  have hvb := vars_bulk t 0
  obtain ⟨b0, z0, k0⟩ := new_blk (Below.refl w.heap.size w) (Nat.le_refl _) #[.int .i64 t.kind, .int .i64 t.index, .int .i64 t.type.kind, .slice Bt t.type.args.length d, .slice A t.args.length c] 34
  have H0 := Lib.hid (And.intro b0 k0)
  clear hT hok hlow b0 z0 k0
  go_enter Tryd.func23, Tryd.ntmps23
  go_wp2_with fail
  refine (refCheckT_any t _ _ HT.out.2.1 (by omega) hsz (IsTm.boxed HT.out.1 H0.out.1)).mono ?_
  rintro e w1 ⟨rfl, hb1⟩
  have H1 := Lib.hid (And.intro (H0.out.1.trans (hb1.mono H0.out.1.size)) (H0.out.2.below hb1 H0.out.2.lt))
  obtain ⟨r0, r1, r2, r3, r4, _, _, _, _, _⟩ := H1.out.2.facts5
  obtain ⟨s0, s1, s2, s3, s4, _, _, _, _, _⟩ := (H1.out.2.alloc (.map #[] 0)).facts5
  clear hb1
  go_wp2_with fail
  have hz1 := H1.out.1.size
  have HA := Lib.hid (show Below w.heap.size w (w1.alloc (.map #[] 0)) from H1.out.1.alloc hz1 _)
  refine (mark_any w1.heap.size 390000 t _ 0 0 (.map []) (w1.alloc (.map #[] 0)) hn (by omega) HT.out.2.1 HT.out.2.2 (by omega) (IsTm.keep (S := (· < w.heap.size)) (fun b hb => ⟨fun e => by have hb : b < w.heap.size := hb; have e : b = w1.heap.size := e; omega, by have hb : b < w.heap.size := hb; simp; omega⟩) (fun p hp => HA.out.cell hp) _ HT.out.1) (made_map w1)).mono ?_
  rintro e w2 ⟨rfl, ho2, ht2⟩
  have hfacts := markD_facts _ (t.vars 0) rfl
  have HF := Lib.hid hfacts.2.2
  have hms := hfacts.2.1
  have hz2 := ht2.size
  simp only [World.size_alloc] at hz2
  have H2 := Lib.hid (show Below w.heap.size w w2 from HA.out.trans (ht2.toBelow (fun k hk e => by omega) HA.out.size))
  have HO := Lib.hid ho2
  clear r0 r1 r2 r3 r4 s0 s1 s2 s3 s4 ho2 ht2 hfacts
  go_wp2_with fail
  refine (sorted3_any HO.out (by omega)).mono ?_
  rintro e w3 ⟨s3, ss, rfl, hmem, hlen, hrow, hb3⟩
  have H3 := Lib.hid (And.intro (World.ownsRow.mono hrow (show w.heap.size ≤ w2.heap.size by omega)) (H2.out.trans (hb3.mono H2.out.size)))
  have HM := Lib.hid hmem
  clear hrow hb3 hmem
  go_wp2_with fail
  go_ret2
  exact ⟨s3, ss, rfl, fun x => (HM.out x).trans (HF.out x), hlen, H3.out.1, H3.out.2⟩
end Go.Proofs.YtnodebcbnfkioaaDoor
namespace Go.Proofs.YtnodebcbnfkioaaDoor
open Go.RowKit

theorem ctx_errR {g : Nat} {w : World} {G : List Ty} {s : Value} (h : Ctx g w G s) : ∀ T ∈ G, T.err = 0 := fun T hT => by
  have h1 := h.ok T hT
  exact err_zero.2 ⟨h1.1, by omega⟩
/-- A slice of small numbers, as the walk asks for it. -/
theorem zrow {w : World} {base : Nat} {s : Value} {L : List Int} (h : w.ownsRow base 3 1 s L.length (L.map (Value.int .i64))) : ∃ (A : Option Addr) (c : Nat), s = .slice A L.length c ∧ ∀ j (hj : j < L.length), ∃ g, A = some ⟨g, 0, none⟩ ∧ g < w.heap.size ∧ w.cell? ⟨g, j, none⟩ = some (.int .i64 L[j]) := by
  rcases h.2 with ⟨rfl, hn⟩ | ⟨g, cap, cur, rfl, _, hg, _⟩
  · exact ⟨none, 0, by rw [hn], fun j hj => by omega⟩
  · refine ⟨_, cap, rfl, fun j hj => ⟨g, rfl, (Array.getElem?_eq_some_iff.1 hg).1, ?_⟩⟩
    rw [h.cellAt j (by omega), List.getElem?_map, List.getElem?_eq_getElem hj]
    rfl
/-- Is a number among the first ones of a list? -/
theorem among_step {L : List Int} {k : Nat} (hk : k < L.length) (x : Int) : decide (x ∈ L.take (k + 1)) = (decide (x ∈ L.take k) || x == L[k]) := by
  rw [Bool.eq_iff_iff]
  simp only [decide_eq_true_eq, Bool.or_eq_true, beq_iff_eq, List.take_succ_eq_append_getElem hk, List.mem_append, List.mem_singleton]
theorem bd_three (t : Ty) : bdN 3 t ≤ 276 := bdN3 t

/-- How the loop stands. -/
def TypesAt (G : List Ty) (S : Ty) (lo q j : Nat) (w wr : World) : Prop :=
  ∃ (Y : Tm) (B A : Option Addr) (e c : Nat), Y.ok = true ∧ Y.typ G = .ok S ∧ Y.size ≤ 4096 ∧ Y.low (1000 + 4096 * j) = true ∧
    Blk wr q 34 #[.int .i64 Y.kind, .int .i64 Y.index, .int .i64 Y.type.kind, .slice B Y.type.args.length e, .slice A Y.args.length c] ∧ IsTm (fun b => (lo ≤ b ∧ b ≠ q) ∧ b < wr.heap.size) wr Y (.agg #[.int .i64 Y.kind, .int .i64 Y.index, .int .i64 Y.type.kind, .slice B Y.type.args.length e, .slice A Y.args.length c]) ∧ Turn (· = q) w wr

set_option maxRecDepth 100000 in
set_option maxHeartbeats 8000000 in
theorem redTypesLaw_small (A : Option Addr) (len cap : Nat) (w : World) (htab : Tab w) (hlen : len ≤ 500) (hA : ∀ i, i < len → ∃ a x, A = some a ∧ a.block < w.heap.size ∧ w.cell? (a.add i) = some (.int .i64 x)) :
    Calls Tryd.prog 4 #[.slice A len cap] w fun e w' => e = .returned (.bool true) ∧ Below w.heap.size w w' := by
  have hA' := Lib.hid hA
  have HTab := Lib.hid htab
  clear hA htab
  have e500 : decide ((len : Int) ≤ 500) = true := by simp; omega
  go_enter Tryd.func4, Tryd.ntmps4
  go_wp2_with fail
  refine (saneR_any w HTab.out).mono ?_
  rintro e w1 ⟨rfl, hb1⟩
  go_wp2_with fail
  refine (few_any A len cap w1 (by simp only [maxLen]; omega)).mono ?_
  rintro e w1' ⟨rfl, rfl⟩
  rw [e500]
  go_wp2_with fail
  have hA1 : ∀ i, i < len → ∃ a x, A = some a ∧ a.block < w1.heap.size ∧ w1.cell? (a.add i) = some (.int .i64 x) := fun i hi => by
    obtain ⟨a, x, h1, h2, h3⟩ := hA'.out i hi
    exact ⟨a, x, h1, Nat.lt_of_lt_of_le h2 hb1.size, (hb1.cell (by rw [add_block]; exact h2)).trans h3⟩
  refine (new_any A len cap w1 hlen hA1).mono ?_
  rintro e w2 ⟨rfl, hw2⟩
  have hd2 := new_deck A len cap w1 hlen hA1
  rw [hw2] at hd2
  have b_w2 : Below w.heap.size w w2 := by rw [← hw2]; exact hb1.alloc hb1.size _
  have hgw : w.heap.size ≤ w1.heap.size := hb1.size
  clear hw2 hA1 hb1
  generalize w1.heap.size = gg at hd2 hgw ⊢
  have z_w2 := hd2.lt
  have HD2 := Lib.hid hd2
  clear hd2
  go_wp2_with fail
  refine (mkContext_any gg w2 HD2.out).mono ?_
  rintro e w3 ⟨G, v, rfl, hG3, hGok, hGs, hGf, hGnil, hd3, hg3⟩
  obtain ⟨A3, c3, rfl⟩ := hGs.form
  have HD3 := Lib.hid hd3
  have HC3 := Lib.hid (show Ctx gg w3 G (.slice A3 G.length c3) from ⟨hGs.keep (fun b hb => ⟨by have := hb.1; omega, hb.2⟩) (fun _ _ => rfl), hGf, hGok⟩)
  have HGN := Lib.hid hGnil
  have HGO := Lib.hid hGok
  have s_w3 := turn_of hg3
  have b_w3 : Below w.heap.size w w3 := b_w2.trans (s_w3.toBelow (fun k hk e => by omega) b_w2.size)
  clear s_w3 b_w2 
  have z_w3 : gg < w3.heap.size := HD3.out.lt
  have m_w3_w3 := tRf gg w3
  clear hg3 hd3 hGs hGf hGnil hGok
  go_wp2_with fail
  refine (type_any 1 1 gg w3 (by omega) (by omega) (by omega) HD3.out).mono ?_
  rintro e w4 ⟨S, x4, rfl, okS, szS, tyS, hd4, hg4⟩
  obtain ⟨A4, c4, rfl⟩ := tyS.form
  have nS := type_three szS
  have HS := Lib.hid (And.intro okS (Typ.of tyS z_w3))
  have D_w4 := Lib.hid hd4
  have s_w4 := turn_of hg4
  have b_w4 : Below w.heap.size w w4 := b_w3.trans (s_w4.toBelow (fun k hk e => by omega) b_w3.size)
  have m_w3_w4 := m_w3_w3.trans s_w4
  clear s_w4 b_w3 m_w3_w3
  have z_w4 : gg < w4.heap.size := D_w4.out.lt
  have m_w4_w4 := tRf gg w4
  clear tyS hd4 hg4 okS szS
  go_upto_region 8 with fail
  obtain ⟨b5, z5, k5⟩ := new_blk (Below.refl w4.heap.size w4) (Nat.le_refl _) #[.int .i64 S.kind, .slice A4 S.args.length c4] 30
  generalize w4.alloc (Obj.cells #[.int .i64 S.kind, .slice A4 S.args.length c4] 30) = W5 at b5 z5 k5 ⊢
  have m_w4_W5 := m_w4_w4.trans (tCa gg b5)
  have m_w3_W5 := m_w3_w4.trans (tCa gg b5)
  have D_W5 := Lib.hid (Deck.call D_w4.out b5)
  have b_W5 : Below w.heap.size w W5 := b_w4.trans (b5.mono b_w4.size)
  obtain ⟨r0, r1, _, _⟩ := k5.facts2
  have K5 := Lib.hid k5
  clear b5 k5
  go_wp2_with fail
  refine (term_any gg (4 * 3 + S.nodes + 1) G S 3 _ _ W5 (by simp) (by omega) (by omega) (by simp; omega) HS.out.1 nS (Ctx.turn HC3.out m_w3_W5) (Typ.turn HS.out.2 m_w4_W5) D_W5.out).mono ?_
  rintro e w6 ⟨X, v6, rfl, mX, tX, hd6, ht6⟩
  obtain ⟨B6, e6, A6, c6, rfl, _⟩ := IsTm.form tX
  have sX : X.size ≤ 276 := Nat.le_trans mX.size (bd_three S)
  have hlX : X.low 1000 = true := low_mono (by have := sX; simp; omega) X (typ_low X G mX.ok mX.typ)
  have HMX := Lib.hid (And.intro mX.ok (And.intro mX.typ hlX))
  have b_w6 : Below w.heap.size w w6 := b_W5.trans (ht6.toBelow (fun k hk e => by omega) b_W5.size)
  have z_W5 : W5.heap.size = w4.heap.size + 1 := z5
  have z_w6 := ht6.size
  have K6 := Lib.hid (ht6.blk K5.out (by omega))
  have HC6 := Lib.hid (Ctx.turn HC3.out (m_w3_W5.trans ht6))
  have HS6 := Lib.hid (Typ.turn HS.out.2 (m_w4_W5.trans ht6))
  have HTX := Lib.hid (show Trm W5.heap.size w6 X _ from tX)
  clear r0 r1 hlX mX tX hd6 ht6 m_w4_W5 m_w3_W5 b_W5 z5
  go_upto_region 9 with fail
  obtain ⟨b7, z7, k7⟩ := new_blk (Below.refl w6.heap.size w6) (Nat.le_refl _) #[.int .i64 X.kind, .int .i64 X.index, .int .i64 X.type.kind, .slice B6 X.type.args.length e6, .slice A6 X.args.length c6] 34
  generalize w6.alloc (Obj.cells #[.int .i64 X.kind, .int .i64 X.index, .int .i64 X.type.kind, .slice B6 X.type.args.length e6, .slice A6 X.args.length c6] 34) = W7 at b7 z7 k7 ⊢
  have B7 := Lib.hid (show Below w.heap.size w W7 from b_w6.trans (b7.mono b_w6.size))
  have K7 := Lib.hid (K6.out.below b7 (by omega))
  have HC7 := Lib.hid (Ctx.turn HC6.out (tCa gg b7))
  have HS7 := Lib.hid (Typ.turn HS6.out (tCa gg b7))
  have hat : 0 < w.heap.size := HTab.out.lt
  have T7 := Lib.hid (HTab.out.after B7.out)
  have B67 := Lib.hid b7
  have HL := Lib.hid (show TypesAt G S W5.heap.size w6.heap.size 0 W7 W7 from ⟨X, B6, A6, e6, c6, HMX.out.1, HMX.out.2.1, by omega, HMX.out.2.2, k7, IsTm.keep (fun b h => ⟨⟨h.1, by have := h.2; omega⟩, by have := h.2; omega⟩) (fun p hp => b7.cell hp.2) _ HTX.out, Turn.refl _ _⟩)
  have hgq : gg < w6.heap.size := by omega
  have hwq : w.heap.size ≤ w4.heap.size := by omega
  clear b7 k7 b_w6
  go_wp2_with fail
  go_loopw [39] (fun ix wr => ∃ j : Nat, j ≤ 12 ∧ ix = .int .i64 j ∧ TypesAt G S W5.heap.size w6.heap.size j W7 wr) (fun ix _ => 12 - (intOf ix).toNat)
  case atStart => exact ⟨0, by omega, rfl, HL.out⟩
  case round =>
    obtain ⟨j, hj, rfl, Y, B1, A1, e1, c1, ho, htp, hs, hl, kq, ty, ht⟩ := hrel
    have HP := Lib.hid (And.intro ho (And.intro htp hl))
    have HK := Lib.hid kq
    have HY := Lib.hid ty
    have HTR := Lib.hid ht
    have hzr := ht.size
    have TR := Lib.hid (T7.out.turn ht (by omega))
    have hbk := ok_bulk ho
    have hlw : Y.low 1000000 = true := low_mono (by omega) Y hl
    have HLW := Lib.hid hlw
    clear ho htp hl kq ty ht hlw
    by_cases h12 : j < 12
    · have e12 : decide ((j : Int) < 12) = true := decide_eq_true (by omega)
      obtain ⟨r0, r1, r2, r3, r4, g0, g1, g2, g3, g4⟩ := HK.out.facts5
      go_wp2_with fail
      refine (stepTop_any Y _ (fun b => (W5.heap.size ≤ b ∧ b ≠ w6.heap.size) ∧ b < wr.heap.size) wr (by omega) (errT_zero.2 ⟨HP.out.1, hs⟩) HLW.out TR.out (fun b h => h.2) HY.out).mono ?_
      rintro e w8 ⟨b8, ⟨u, v', rfl, hu, hnx, hsu⟩ | ⟨v', rfl, hu, hnx⟩ | ⟨rfl, _⟩⟩
      · obtain ⟨B2, e2, A2, c2, rfl, _⟩ := IsTm.form hu
        have hz8 := b8.size
        have hd := next_deep Y HP.out.1 hnx
        have HU := Lib.hid (And.intro (hd.ok HP.out.1) (And.intro (hd.typ HP.out.1 HP.out.2.1) (low_mono (show (1000 + 4096 * j : Int) + (Y.size : Int) ≤ 1000 + 4096 * ((j + 1 : Nat) : Int) by omega) u (hd.low (by omega) HP.out.2.2))))
        have HF := Lib.hid (next_free HP.out.1 hnx)
        have hub := ok_bulk HU.out.1
        have hul : u.low 1000000 = true := low_mono (by omega) u HU.out.2.2
        have HUL := Lib.hid hul
        have H8 := Lib.hid (And.intro b8 hu)
        clear r0 r1 r2 r3 r4 g0 g1 g2 g3 g4 b8 hu hnx hd hul
        go_upto_region 12 with fail
        obtain ⟨b9, z9, k9⟩ := new_blk (Below.refl w8.heap.size w8) (Nat.le_refl _) #[.int .i64 u.kind, .int .i64 u.index, .int .i64 u.type.kind, .slice B2 u.type.args.length e2, .slice A2 u.args.length c2] 34
        generalize w8.alloc (Obj.cells #[.int .i64 u.kind, .int .i64 u.index, .int .i64 u.type.kind, .slice B2 u.type.args.length e2, .slice A2 u.args.length c2] 34) = W9 at b9 z9 k9 ⊢
        have B9 := Lib.hid (H8.out.1.trans (b9.mono hz8))
        have hz9 := b9.size
        have K9 := Lib.hid k9
        have U9 := Lib.hid (show IsTm (fun b => ((W5.heap.size ≤ b ∧ b ≠ w6.heap.size) ∧ b < w8.heap.size)) W9 u _ from IsTm.keep (S' := fun b => ((W5.heap.size ≤ b ∧ b ≠ w6.heap.size) ∧ b < w8.heap.size)) (fun b h => by have := h.1; have := h.2; omega) (fun p hp => b9.cell hp.2) _ H8.out.2)
        have OLD := Lib.hid fun (W : World) (hW : Below W9.heap.size W9 W) (p : Addr) (hp : p.block < w6.heap.size) => (show W.cell? p = w6.cell? p from (hW.cell (by omega)).trans ((B9.out.cell (by omega)).trans ((World.cell?_of_block (HTR.out.block p.block (by omega) (by omega))).trans (B67.out.cell hp))))
        have YW := Lib.hid fun (W : World) (hW : Below W9.heap.size W9 W) => (show IsTm (· < W.heap.size) W Y _ from IsTm.keep (S' := (· < W.heap.size)) (fun b h => by have := h.2; have := hW.size; omega) (fun p hp => (hW.cell (by have := hp.2; omega)).trans (B9.out.cell hp.2)) _ HY.out)
        have UW := Lib.hid fun (W : World) (hW : Below W9.heap.size W9 W) => (show IsTm (· < W.heap.size) W u _ from IsTm.keep (S' := (· < W.heap.size)) (fun b h => by have := h.2; have := hW.size; omega) (fun p hp => hW.cell (by have := hp.2; omega)) _ U9.out)
        have KXW := Lib.hid fun (W : World) (hW : Below W9.heap.size W9 W) => ((HK.out.below B9.out HK.out.lt).below hW (by have := HK.out.lt; omega))
        have KUW := Lib.hid fun (W : World) (hW : Below W9.heap.size W9 W) => (k9.below hW (by omega))
        obtain ⟨r0, r1, r2, r3, r4, _, _, _, _, _⟩ := (KUW.out W9 (Below.refl _ _)).facts5
        clear b9 k9
        go_upto_region 17 with fail
        go_wp2_with fail
        refine (refTypeOf_any u G _ _ S W9 HU.out.1 hsu (ctx_errR HC6.out) (by omega) (by omega) HU.out.2.1 (HC6.out.sl.keep (S' := (· < W9.heap.size)) (fun b h => by have := h.2; omega) (fun p hp => OLD.out W9 (Below.refl _ _) p hp.2)) HC6.out.formed (UW.out W9 (Below.refl _ _))).mono ?_
        rintro e wi ⟨bi, vi, rfl, ti⟩
        obtain ⟨Ai, ci, rfl⟩ := ti.form
        have hzi := bi.size
        have HI := Lib.hid (And.intro bi ti)
        clear r0 r1 r2 r3 r4 bi ti
        go_upto_region 18 with fail
        obtain ⟨bk, zk, kk⟩ := new_blk (Below.refl wi.heap.size wi) (Nat.le_refl _) #[.int .i64 S.kind, .slice Ai S.args.length ci] 30
        generalize wi.alloc (Obj.cells #[.int .i64 S.kind, .slice Ai S.args.length ci] 30) = Wk at bk zk kk ⊢
        have BK := Lib.hid (HI.out.1.trans (bk.mono hzi))
        have hzk := bk.size
        have T1 := Lib.hid (show IsTy (· < Wk.heap.size) Wk S _ from IsTy.keep (S' := (· < Wk.heap.size)) (fun b h => by have := h.2; omega) (fun p hp => bk.cell hp.2) _ HI.out.2)
        have T2 := Lib.hid (show IsTy (· < Wk.heap.size) Wk S _ from IsTy.keep (S' := (· < Wk.heap.size)) (fun b h => by have := h.2; omega) (fun p hp => OLD.out Wk BK.out p hp.2) _ HS6.out)
        have KS := Lib.hid (show Blk Wk w4.heap.size 30 #[.int .i64 S.kind, .slice A4 S.args.length c4] from K7.out.carry ((BK.out.block _ (by omega)).trans ((B9.out.block _ (by omega)).trans (HTR.out.block _ (by omega) (by omega)))))
        obtain ⟨r0, r1, _, _⟩ := KS.out.facts2
        obtain ⟨s0, s1, _, _⟩ := kk.facts2
        clear bk kk
        go_wp2_with fail
        refine (refSame_is true (eqb_self S) (by omega) (by omega) T1.out T2.out).mono ?_
        rintro e wl ⟨rfl, bl⟩
        have hzl := bl.size
        have BL := Lib.hid (BK.out.trans (bl.mono BK.out.size))
        clear r0 r1 s0 s1 bl
        obtain ⟨r0, r1, r2, r3, r4, _, _, _, _, _⟩ := (KXW.out wl BL.out).facts5
        go_wp2_with fail
        refine (refUses_any Y _ wl HP.out.1 (by omega) hs HLW.out (YW.out wl BL.out)).mono ?_
        rintro e wm ⟨s1, L1, rfl, hL1, hn1, row1, bm⟩
        obtain ⟨Am, cm, rfl, cell1⟩ := zrow row1
        have hzm := bm.size
        have BM := Lib.hid (BL.out.trans (bm.mono BL.out.size))
        have HL1 := Lib.hid hL1
        have CE1 := Lib.hid cell1
        clear r0 r1 r2 r3 r4 row1 hL1 cell1 bm
        obtain ⟨r0, r1, r2, r3, r4, _, _, _, _, _⟩ := (KUW.out wm BM.out).facts5
        go_wp2_with fail
        refine (refUses_any u _ wm HU.out.1 (by omega) hsu HUL.out (UW.out wm BM.out)).mono ?_
        rintro e wn ⟨s2, L2, rfl, hL2, hn2, row2, bn⟩
        obtain ⟨An, cn, rfl, cell2⟩ := zrow row2
        have hzn := bn.size
        have BN := Lib.hid (BM.out.trans (bn.mono BM.out.size))
        have CE1' := Lib.hid fun j (hj : j < L1.length) => (show ∃ g, Am = some ⟨g, 0, none⟩ ∧ wn.cell? ⟨g, j, none⟩ = some (.int .i64 L1[j]) from by obtain ⟨g, h1, h2, h3⟩ := CE1.out j hj; exact ⟨g, h1, (bn.cell (p := ⟨g, j, none⟩) h2).trans h3⟩)
        have CE2 := Lib.hid cell2
        have SUB := Lib.hid fun x (hx : x ∈ L2) => (HL1.out x).2 (HF.out x ((hL2 x).1 hx))
        clear r0 r1 r2 r3 r4 row2 hL2 cell2 bn
        go_wp2_with fail
        go_loopw [101] (fun ix wx => ∃ k : Nat, k ≤ L2.length ∧ ix = .int .i64 k ∧ wx = wn) (fun ix _ => L2.length - (intOf ix).toNat)
        case atStart => exact ⟨0, by omega, rfl, rfl⟩
        case round =>
          obtain ⟨k, hk, rfl, rfl⟩ := hrel
          by_cases hkl : k < L2.length
          · obtain ⟨g2, rfl, _, hc2⟩ := CE2.out k hkl
            have hkI : (0 : Int) ≤ k := by omega
            go_wp2_with fail
            go_loopw [21, 107] (fun f ix wx => ∃ m : Nat, m ≤ L1.length ∧ ix = .int .i64 m ∧ f = .bool (decide (L2[k] ∈ L1.take m)) ∧ wx = wr) (fun _ ix _ => L1.length - (intOf ix).toNat)
            case atStart => exact ⟨0, by omega, rfl, by simp, rfl⟩
            case round =>
              obtain ⟨m, hm, rfl, rfl, rfl⟩ := hrel
              by_cases hml : m < L1.length
              · obtain ⟨g1, rfl, hc1⟩ := CE1'.out m hml
                have hmI : (0 : Int) ≤ m := by omega
                have HAM := Lib.hid (among_step hml L2[k])
                generalize decide (L2[k] ∈ L1.take m) = f at HAM ⊢
                cases f with
                | true =>
                  have HAM2 := Lib.hid (show decide (L2[k] ∈ L1.take (m + 1)) = true from HAM.out)
                  clear HAM
                  go_wp2_with fail
                  exact ⟨⟨m + 1, by omega, by go_num, by rw [HAM2.out], trivial⟩, by simp [intOf]; omega⟩
                | false =>
                  have HAM2 := Lib.hid (show decide (L2[k] ∈ L1.take (m + 1)) = (L2[k] == L1[m]) from HAM.out)
                  clear HAM
                  go_wp2_with fail
                  exact ⟨⟨m + 1, by omega, by go_num, by rw [HAM2.out], trivial⟩, by simp [intOf]; omega⟩
              · obtain rfl : m = L1.length := by omega
                have hin : decide (L2[k] ∈ L1.take L1.length) = true := by rw [List.take_length]; exact decide_eq_true (SUB.out _ (List.getElem_mem hkl))
                rw [hin]
                go_wp2_with fail
                exact ⟨⟨k + 1, by omega, by go_num, trivial⟩, by simp [intOf]; omega⟩
          · obtain rfl : k = L2.length := by omega
            rename World => wz
            obtain ⟨r0, r1, r2, r3, r4, _, _, _, _, _⟩ := (KUW.out wz BN.out).facts5
            obtain ⟨_, _, _, _, _, f0, f1, f2, f3, f4⟩ := (KXW.out wz BN.out).facts5
            have hg5 := only_set5 wz w6.heap.size (.int .i64 u.kind) (.int .i64 u.index) (.int .i64 u.type.kind) (.slice B2 u.type.args.length e2) (.slice A2 u.args.length c2)
            have hfin := ((KXW.out wz BN.out).set5 (.int .i64 u.kind) (.int .i64 u.index) (.int .i64 u.type.kind) (.slice B2 u.type.args.length e2) (.slice A2 u.args.length c2))
            have hbz := BN.out.size
            have HFIN := Lib.hid (show TypesAt G S W5.heap.size w6.heap.size (j + 1) W7 (((((wz.setCell ⟨w6.heap.size, 0, none⟩ (.int .i64 u.kind)).setCell ⟨w6.heap.size, 1, none⟩ (.int .i64 u.index)).setCell ⟨w6.heap.size, 2, none⟩ (.int .i64 u.type.kind)).setCell ⟨w6.heap.size, 3, none⟩ (.slice B2 u.type.args.length e2)).setCell ⟨w6.heap.size, 4, none⟩ (.slice A2 u.args.length c2)) from
              ⟨u, B2, A2, e2, c2, HU.out.1, HU.out.2.1, hsu, HU.out.2.2, hfin, IsTm.keep (fun b h => ⟨h.1, by have := h.2; have := hg5.size; omega⟩) (fun p hp => (World.cell?_of_block (hg5.block p.block (by have := hp.2; omega) (by have := hp.1.2; simpa using this))).trans (BN.out.cell (by have := hp.2; omega))) _ U9.out,
                ((HTR.out.trans (Turn.call B9.out)).trans (Turn.call BN.out)).trans (Turn.grown hg5 fun k e => by cases e; rfl)⟩)
            clear hg5 hfin
            go_wp2_with fail
            exact ⟨⟨j + 1, by omega, by go_num, HFIN.out⟩, by simp [intOf]; omega⟩
      · obtain ⟨B2, e2, A2, c2, rfl, _⟩ := IsTm.form hu
        have hz8 := b8.size
        have H8 := Lib.hid (And.intro b8 hu)
        have HN := Lib.hid hnx
        clear r0 r1 r2 r3 r4 g0 g1 g2 g3 g4 b8 hu hnx
        go_upto_region 12 with fail
        obtain ⟨b9, z9, k9⟩ := new_blk (Below.refl w8.heap.size w8) (Nat.le_refl _) #[.int .i64 Y.kind, .int .i64 Y.index, .int .i64 Y.type.kind, .slice B2 Y.type.args.length e2, .slice A2 Y.args.length c2] 34
        generalize w8.alloc (Obj.cells #[.int .i64 Y.kind, .int .i64 Y.index, .int .i64 Y.type.kind, .slice B2 Y.type.args.length e2, .slice A2 Y.args.length c2] 34) = W9 at b9 z9 k9 ⊢
        have B9 := Lib.hid (H8.out.1.trans (b9.mono hz8))
        have hz9 := b9.size
        have Y2 := Lib.hid (show IsTm (· < w8.heap.size) W9 Y _ from IsTm.keep (S' := (· < w8.heap.size)) (fun b h => h.2) (fun p hp => b9.cell hp.2) _ H8.out.2)
        have Y9 := Lib.hid (show IsTm (fun b => b < wr.heap.size) W9 Y _ from IsTm.keep (S' := (· < wr.heap.size)) (fun b h => h.2) (fun p hp => B9.out.cell hp.2) _ HY.out)
        have K9 := Lib.hid k9
        obtain ⟨r0, r1, r2, r3, r4, _, _, _, _, _⟩ := (HK.out.below B9.out HK.out.lt).facts5
        clear b9 k9
        go_wp2_with fail
        refine (normal_any Y _ (· < wr.heap.size) 0 W9 (by omega) (errT_zero.2 ⟨HP.out.1, hs⟩) HLW.out (by omega) (TR.out.after B9.out) (fun b h => by have h : b < wr.heap.size := h; omega) Y9.out).mono ?_
        rintro e w10 h10
        obtain ⟨b10, ⟨_, v10, rfl, t10⟩ | ⟨h10, _⟩⟩ := normal_again (m := 0) (u := Y) (show Steps 0 (fun _ => false) 0 Y Y from rfl) HN.out h10
        · obtain ⟨B3, e3, A3', c3', rfl, _⟩ := IsTm.form t10
          have hz10 := b10.size
          have H10 := Lib.hid (And.intro b10 t10)
          clear r0 r1 r2 r3 r4 b10 t10
          go_upto_region 16 with fail
          obtain ⟨b11, z11, k11⟩ := new_blk (Below.refl w10.heap.size w10) (Nat.le_refl _) #[.int .i64 Y.kind, .int .i64 Y.index, .int .i64 Y.type.kind, .slice B3 Y.type.args.length e3, .slice A3' Y.args.length c3'] 34
          generalize w10.alloc (Obj.cells #[.int .i64 Y.kind, .int .i64 Y.index, .int .i64 Y.type.kind, .slice B3 Y.type.args.length e3, .slice A3' Y.args.length c3'] 34) = W11 at b11 z11 k11 ⊢
          have B11 := Lib.hid (H10.out.1.trans (b11.mono hz10))
          have hz11 := b11.size
          have BB := Lib.hid (B9.out.trans (B11.out.mono (by omega)))
          have K11 := Lib.hid k11
          have YA := Lib.hid (show IsTm (fun b => b < wr.heap.size) W11 Y _ from IsTm.keep (S' := (· < wr.heap.size)) (fun b h => h.2) (fun p hp => BB.out.cell hp.2) _ HY.out)
          have YB := Lib.hid (show IsTm (fun b => b < w8.heap.size) W11 Y _ from IsTm.keep (S' := (· < w8.heap.size)) (fun b h => h) (fun p hp => B11.out.cell (by have hp : p.block < w8.heap.size := hp; omega)) _ Y2.out)
          have YC := Lib.hid (show IsTm (fun b => b < w10.heap.size) W11 Y _ from IsTm.keep (S' := (· < w10.heap.size)) (fun b h => h.2) (fun p hp => b11.cell hp.2) _ H10.out.2)
          obtain ⟨r0, r1, r2, r3, r4, _, _, _, _, _⟩ := (HK.out.below BB.out HK.out.lt).facts5
          obtain ⟨s0, s1, s2, s3, s4, _, _, _, _, _⟩ := (K9.out.below B11.out K9.out.lt).facts5
          clear b11 k11
          go_wp2_with fail
          refine (sameT_refl 400000 Y _ _ W11 (by omega) (Nat.le_refl _) (YA.out.keep (fun b h => by have h : b < wr.heap.size := h; omega) (fun _ _ => rfl)) (YB.out.keep (fun b h => by have h : b < w8.heap.size := h; omega) (fun _ _ => rfl))).mono ?_
          rintro e w12 ⟨rfl, b12⟩
          have hz12 := b12.size
          have B12 := Lib.hid b12
          clear r0 r1 r2 r3 r4 s0 s1 s2 s3 s4 b12
          obtain ⟨r0, r1, r2, r3, r4, _, _, _, _, _⟩ := ((HK.out.below BB.out HK.out.lt).below B12.out (by omega)).facts5
          obtain ⟨s0, s1, s2, s3, s4, _, _, _, _, _⟩ := (K11.out.below B12.out K11.out.lt).facts5
          go_wp2_with fail
          refine (sameT_refl 400000 Y _ _ w12 (by omega) (Nat.le_refl _) (YA.out.keep (fun b h => by have h : b < wr.heap.size := h; omega) (fun p hp => B12.out.cell (by have hp : p.block < wr.heap.size := hp; omega))) (YC.out.keep (fun b h => by have h : b < w10.heap.size := h; omega) (fun p hp => B12.out.cell (by have hp : p.block < w10.heap.size := hp; omega)))).mono ?_
          rintro e w13 ⟨rfl, b13⟩
          have B13 := Lib.hid (show Below w.heap.size w w13 from (B7.out.trans (HTR.out.toBelow (fun k hk e => by omega) B7.out.size)).trans ((BB.out.trans ((B12.out.trans (b13.mono hz12)).mono BB.out.size)).mono (by have := B7.out.size; omega)))
          clear r0 r1 r2 r3 r4 s0 s1 s2 s3 s4 b13
          go_wp2_with fail
          go_ret
          exact ⟨rfl, B13.out⟩
        · omega
      · have B8 := Lib.hid (show Below w.heap.size w w8 from (B7.out.trans (HTR.out.toBelow (fun k hk e => by omega) B7.out.size)).trans (b8.mono (by have := B7.out.size; omega)))
        clear r0 r1 r2 r3 r4 g0 g1 g2 g3 g4 b8
        go_wp2_with fail
        go_ret
        exact ⟨rfl, B8.out.alloc B8.out.size _⟩
    · have e12 : decide ((j : Int) < 12) = false := decide_eq_false (by omega)
      go_wp2_with fail
      go_ret
      exact ⟨rfl, B7.out.trans (HTR.out.toBelow (fun k hk e => by omega) B7.out.size)⟩
end Go.Proofs.YtnodebcbnfkioaaDoor
