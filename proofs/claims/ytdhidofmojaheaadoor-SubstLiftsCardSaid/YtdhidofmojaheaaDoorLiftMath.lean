/- Lifting and putting in, one after the other. -/
import Derived.Test.YtdhidofmojaheaaDoorPackSubst
namespace Go.Proofs.YtdhidofmojaheaaDoor
open Go.RowKit

/-! Lifting and putting in, one after the other. -/
theorem lift_mk (k i : Int) (T : Ty) (l : List Tm) (m n : Nat) : (Tm.mk k i T l).lift m n = .mk k (if k = 1 ∧ (m : Int) ≤ i then i + n else i) T (liftAll l (if k = 2 then m + 1 else m) n) := by rw [Tm.lift]
theorem lift_var (i : Int) (T : Ty) (m n : Nat) : (Tm.mk 1 i T []).lift m n = .mk 1 (if (m : Int) ≤ i then i + n else i) T [] := by
  rw [lift_mk]; simp [liftAll]
theorem lift_node {k i : Int} {T : Ty} {l : List Tm} {m n : Nat} (hk : k ≠ 1) : (Tm.mk k i T l).lift m n = .mk k i T (liftAll l (if k = 2 then m + 1 else m) n) := by
  rw [lift_mk, if_neg (fun e => hk e.1)]
theorem put_var (i : Int) (T : Ty) (m : Nat) (s : Tm) : (Tm.mk 1 i T []).put m s = if i = (m : Int) then s.lift 0 m else if (m : Int) < i then .mk 1 (i - 1) T [] else .mk 1 i T [] := by
  rw [Tm.put, if_pos rfl]
theorem put_node {k i : Int} {T : Ty} {l : List Tm} {m : Nat} {s : Tm} (hk : k ≠ 1) : (Tm.mk k i T l).put m s = .mk k i T (putAll l (if k = 2 then m + 1 else m) s) := by
  rw [Tm.put, if_neg hk]
theorem var_nil {i : Int} {T : Ty} {l : List Tm} (h : (Tm.mk 1 i T l).ok = true) : l = [] := by
  rw [Tm.ok, Bool.and_eq_true] at h
  exact List.eq_nil_of_length_eq_zero (formed_kind h.1).2.2.1
theorem ok_parts {k i : Int} {T : Ty} {l : List Tm} (h : (Tm.mk k i T l).ok = true) : okAllT l = true := by
  rw [Tm.ok, Bool.and_eq_true] at h; exact h.2
theorem put_var_eq {i : Int} {T : Ty} {m : Nat} {s : Tm} (h : i = (m : Int)) : (Tm.mk 1 i T []).put m s = s.lift 0 m := by rw [put_var, if_pos h]
theorem put_var_gt {i : Int} {T : Ty} {m : Nat} {s : Tm} (h : (m : Int) < i) : (Tm.mk 1 i T []).put m s = .mk 1 (i - 1) T [] := by rw [put_var, if_neg (by omega), if_pos h]
theorem put_var_lt {i : Int} {T : Ty} {m : Nat} {s : Tm} (h : i < (m : Int)) : (Tm.mk 1 i T []).put m s = .mk 1 i T [] := by rw [put_var, if_neg (by omega), if_neg (by omega)]
theorem lift_var_ge {i : Int} {T : Ty} {m n : Nat} (h : (m : Int) ≤ i) : (Tm.mk 1 i T []).lift m n = .mk 1 (i + n) T [] := by rw [lift_var, if_pos h]
theorem lift_var_lt {i : Int} {T : Ty} {m n : Nat} (h : i < (m : Int)) : (Tm.mk 1 i T []).lift m n = .mk 1 i T [] := by rw [lift_var, if_neg (by omega)]

mutual
theorem lift_merge : ∀ (t : Tm) (q a p b : Nat), t.ok = true → p ≤ a → (t.lift q a).lift (q + p) b = t.lift q (a + b)
  | .mk k i T l, q, a, p, b, ho, h => by
    by_cases hk : k = 1
    · subst hk
      obtain rfl := var_nil ho
      by_cases hi : (q : Int) ≤ i
      · rw [lift_var_ge hi, lift_var_ge hi, lift_var_ge (by omega)]; congr 1; omega
      · rw [lift_var_lt (by omega), lift_var_lt (by omega), lift_var_lt (by omega)]
    · rw [lift_node hk, lift_node hk, lift_node hk, show (if k = 2 then q + p + 1 else q + p) = (if k = 2 then q + 1 else q) + p from by split <;> omega, liftAll_merge l _ a p b (ok_parts ho) h]
theorem liftAll_merge : ∀ (l : List Tm) (q a p b : Nat), okAllT l = true → p ≤ a → liftAll (liftAll l q a) (q + p) b = liftAll l q (a + b)
  | [], _, _, _, _, _, _ => by simp [liftAll]
  | t :: r, q, a, p, b, ho, h => by
    simp only [okAllT, Bool.and_eq_true] at ho
    simp only [liftAll, lift_merge t q a p b ho.1 h, liftAll_merge r q a p b ho.2 h]
end
mutual
theorem lift_comm : ∀ (t : Tm) (q p m n : Nat), t.ok = true → (t.lift q p).lift (q + p + m) n = (t.lift (q + m) n).lift q p
  | .mk k i T l, q, p, m, n, ho => by
    by_cases hk : k = 1
    · subst hk
      obtain rfl := var_nil ho
      by_cases hi : (q : Int) ≤ i
      · rw [lift_var_ge hi]
        by_cases hj : ((q + m : Nat) : Int) ≤ i
        · rw [lift_var_ge (i := i) hj, lift_var_ge (by omega), lift_var_ge (by omega)]; congr 1; omega
        · rw [lift_var_lt (i := i) (by omega), lift_var_lt (by omega), lift_var_ge (by omega)]
      · rw [lift_var_lt (by omega), lift_var_lt (by omega), lift_var_lt (by omega), lift_var_lt (by omega)]
    · rw [lift_node hk, lift_node hk, lift_node hk, lift_node hk, show (if k = 2 then q + p + m + 1 else q + p + m) = (if k = 2 then q + 1 else q) + p + m from by split <;> omega,
        liftAll_comm l _ p m n (ok_parts ho), show (if k = 2 then q + 1 else q) + m = (if k = 2 then q + m + 1 else q + m) from by split <;> omega]
theorem liftAll_comm : ∀ (l : List Tm) (q p m n : Nat), okAllT l = true → liftAll (liftAll l q p) (q + p + m) n = liftAll (liftAll l (q + m) n) q p
  | [], _, _, _, _, _ => by simp [liftAll]
  | t :: r, q, p, m, n, ho => by
    simp only [okAllT, Bool.and_eq_true] at ho
    simp only [liftAll, lift_comm t q p m n ho.1, liftAll_comm r q p m n ho.2]
end
mutual
theorem lift_put_hi (r : Tm) (hr : r.ok = true) : ∀ (t : Tm) (p m n : Nat), t.ok = true → (t.lift p m).put (p + m + n) r = (t.put (p + n) r).lift p m
  | .mk k i T l, p, m, n, ho => by
    by_cases hk : k = 1
    · subst hk
      obtain rfl := var_nil ho
      by_cases h1 : i = ((p + n : Nat) : Int)
      · rw [lift_var_ge (by omega), put_var_eq (by omega), put_var_eq h1]
        have := lift_merge r 0 (p + n) p m hr (by omega)
        rw [Nat.zero_add] at this
        rw [this]; congr 1; omega
      · by_cases h2 : ((p + n : Nat) : Int) < i
        · rw [lift_var_ge (by omega), put_var_gt (by omega), put_var_gt h2, lift_var_ge (by omega)]; congr 1; omega
        · rw [put_var_lt (i := i) (by omega)]
          by_cases h3 : (p : Int) ≤ i
          · rw [lift_var_ge h3, put_var_lt (by omega)]
          · rw [lift_var_lt (by omega), put_var_lt (by omega)]
    · rw [lift_node hk, put_node hk, put_node hk, lift_node hk, show (if k = 2 then p + m + n + 1 else p + m + n) = (if k = 2 then p + 1 else p) + m + n from by split <;> omega,
        liftAll_put_hi r hr l _ m n (ok_parts ho), show (if k = 2 then p + 1 else p) + n = (if k = 2 then p + n + 1 else p + n) from by split <;> omega]
theorem liftAll_put_hi (r : Tm) (hr : r.ok = true) : ∀ (l : List Tm) (p m n : Nat), okAllT l = true → putAll (liftAll l p m) (p + m + n) r = liftAll (putAll l (p + n) r) p m
  | [], _, _, _, _ => by simp [liftAll, putAll]
  | t :: l, p, m, n, ho => by
    simp only [okAllT, Bool.and_eq_true] at ho
    simp only [liftAll, putAll, lift_put_hi r hr t p m n ho.1, liftAll_put_hi r hr l p m n ho.2]
end
mutual
theorem lift_put_lo (s : Tm) : ∀ (t : Tm) (q a p : Nat), t.ok = true → p ≤ a → (t.lift q (a + 1)).put (q + p) s = t.lift q a
  | .mk k i T l, q, a, p, ho, h => by
    by_cases hk : k = 1
    · subst hk
      obtain rfl := var_nil ho
      by_cases h1 : (q : Int) ≤ i
      · rw [lift_var_ge h1, lift_var_ge h1, put_var_gt (by omega)]; congr 1; omega
      · rw [lift_var_lt (by omega), lift_var_lt (by omega), put_var_lt (by omega)]
    · rw [lift_node hk, put_node hk, lift_node hk, show (if k = 2 then q + p + 1 else q + p) = (if k = 2 then q + 1 else q) + p from by split <;> omega, liftAll_put_lo s l _ a p (ok_parts ho) h]
theorem liftAll_put_lo (s : Tm) : ∀ (l : List Tm) (q a p : Nat), okAllT l = true → p ≤ a → putAll (liftAll l q (a + 1)) (q + p) s = liftAll l q a
  | [], _, _, _, _, _ => by simp [liftAll, putAll]
  | t :: l, q, a, p, ho, h => by
    simp only [okAllT, Bool.and_eq_true] at ho
    simp only [liftAll, putAll, lift_put_lo s t q a p ho.1 h, liftAll_put_lo s l q a p ho.2 h]
end
mutual
theorem put_lift (a : Tm) (ha : a.ok = true) : ∀ (t : Tm) (p m n : Nat), t.ok = true → (t.put p a).lift (p + m) n = (t.lift (p + m + 1) n).put p (a.lift m n)
  | .mk k i T l, p, m, n, ho => by
    by_cases hk : k = 1
    · subst hk
      obtain rfl := var_nil ho
      by_cases h1 : i = (p : Int)
      · rw [put_var_eq h1, lift_var_lt (by omega), put_var_eq h1]
        have := lift_comm a 0 p m n ha
        simp only [Nat.zero_add] at this
        exact this
      · by_cases h2 : (p : Int) < i
        · rw [put_var_gt h2]
          by_cases h3 : ((p + m + 1 : Nat) : Int) ≤ i
          · rw [lift_var_ge (by omega), lift_var_ge h3, put_var_gt (by omega)]; congr 1; omega
          · rw [lift_var_lt (by omega), lift_var_lt (by omega), put_var_gt h2]
        · rw [put_var_lt (by omega), lift_var_lt (by omega), lift_var_lt (by omega), put_var_lt (by omega)]
    · rw [put_node hk, lift_node hk, lift_node hk, put_node hk, show (if k = 2 then p + m + 1 else p + m) = (if k = 2 then p + 1 else p) + m from by split <;> omega,
        putAll_lift a ha l _ m n (ok_parts ho), show (if k = 2 then p + 1 else p) + m + 1 = (if k = 2 then p + m + 1 + 1 else p + m + 1) from by split <;> omega]
theorem putAll_lift (a : Tm) (ha : a.ok = true) : ∀ (l : List Tm) (p m n : Nat), okAllT l = true → liftAll (putAll l p a) (p + m) n = putAll (liftAll l (p + m + 1) n) p (a.lift m n)
  | [], _, _, _, _ => by simp [liftAll, putAll]
  | t :: l, p, m, n, ho => by
    simp only [okAllT, Bool.and_eq_true] at ho
    simp only [liftAll, putAll, put_lift a ha t p m n ho.1, putAll_lift a ha l p m n ho.2]
end
mutual
/-- What is put in can be exchanged. -/
theorem put_put (a r : Tm) (ha : a.ok = true) (hr : r.ok = true) : ∀ (t : Tm) (m n : Nat), t.ok = true → (t.put m a).put (m + n) r = (t.put (m + n + 1) r).put m (a.put n r)
  | .mk k i T l, m, n, ho => by
    by_cases hk : k = 1
    · subst hk
      obtain rfl := var_nil ho
      by_cases h1 : i = (m : Int)
      · rw [put_var_eq h1, put_var_lt (by omega), put_var_eq h1]
        have := lift_put_hi r hr a 0 m n ha
        simp only [Nat.zero_add] at this
        exact this
      · by_cases h2 : (m : Int) < i
        · rw [put_var_gt h2]
          by_cases h3 : i = ((m + n + 1 : Nat) : Int)
          · rw [put_var_eq (by omega), put_var_eq h3]
            have := lift_put_lo (a.put n r) r 0 (m + n) m hr (by omega)
            rw [Nat.zero_add] at this
            exact this.symm
          · by_cases h4 : ((m + n + 1 : Nat) : Int) < i
            · rw [put_var_gt (by omega), put_var_gt h4, put_var_gt (by omega)]
            · rw [put_var_lt (by omega), put_var_lt (by omega), put_var_gt h2]
        · rw [put_var_lt (by omega), put_var_lt (by omega), put_var_lt (by omega), put_var_lt (by omega)]
    · rw [put_node hk, put_node hk, put_node hk, put_node hk, show (if k = 2 then m + n + 1 else m + n) = (if k = 2 then m + 1 else m) + n from by split <;> omega,
        putAll_put a r ha hr l _ n (ok_parts ho), show (if k = 2 then m + 1 else m) + n + 1 = (if k = 2 then m + n + 1 + 1 else m + n + 1) from by split <;> omega]
theorem putAll_put (a r : Tm) (ha : a.ok = true) (hr : r.ok = true) : ∀ (l : List Tm) (m n : Nat), okAllT l = true → putAll (putAll l m a) (m + n) r = putAll (putAll l (m + n + 1) r) m (a.put n r)
  | [], _, _, _ => by simp [putAll]
  | t :: l, m, n, ho => by
    simp only [okAllT, Bool.and_eq_true] at ho
    simp only [putAll, put_put a r ha hr t m n ho.1, putAll_put a r ha hr l m n ho.2]
end

mutual
theorem lift_zero : ∀ (t : Tm) (m : Nat), t.lift m 0 = t
  | .mk k i T l, m => by
    rw [lift_mk, liftAll_zero l]
    congr 1
    split <;> omega
theorem liftAll_zero : ∀ (l : List Tm) (m : Nat), liftAll l m 0 = l
  | [], _ => by simp [liftAll]
  | t :: r, m => by simp only [liftAll, lift_zero t m, liftAll_zero r m]
end
mutual
/-- A variable that was lifted away does not stand anywhere. -/
theorem lift_occ : ∀ (t : Tm) (q a p : Nat), t.ok = true → p ≤ a → (t.lift q (a + 1)).occ (q + p) = 0
  | .mk k i T l, q, a, p, ho, h => by
    by_cases hk : k = 1
    · subst hk
      obtain rfl := var_nil ho
      by_cases hi : (q : Int) ≤ i
      · rw [lift_var_ge hi, Tm.occ, if_pos rfl, if_neg (by omega)]
      · rw [lift_var_lt (by omega), Tm.occ, if_pos rfl, if_neg (by omega)]
    · rw [lift_node hk, Tm.occ, if_neg hk, show (if k = 2 then q + p + 1 else q + p) = (if k = 2 then q + 1 else q) + p from by split <;> omega]
      exact liftAll_occ l _ a p (ok_parts ho) h
theorem liftAll_occ : ∀ (l : List Tm) (q a p : Nat), okAllT l = true → p ≤ a → occAll (liftAll l q (a + 1)) (q + p) = 0
  | [], _, _, _, _, _ => by simp [liftAll, occAll]
  | t :: r, q, a, p, ho, h => by
    simp only [okAllT, Bool.and_eq_true] at ho
    simp only [liftAll, occAll, lift_occ t q a p ho.1 h, liftAll_occ r q a p ho.2 h]
end
end Go.Proofs.YtdhidofmojaheaaDoor
