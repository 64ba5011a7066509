/- Lifting and putting in, one after the other. -/
import Derived.Test.YtnodebcbnfkioaaDoorPackSubst
import Derived.Test.YtnodebcbnfkioaaDoorLay
import Derived.Maps.OwnSet
import Derived.Maps.Range
import Derived.Lib.SlKeysI
namespace Go.Proofs.YtnodebcbnfkioaaDoor
open Go.RowKit

/-! Lifting and putting in, one after the other. -/
theorem lift_mk (k i : Int) (T : Ty) (l : List Tm) (m n : Nat) : (Tm.mk k i T l).lift m n = .mk k (if k = 1 ∧ (m : Int) ≤ i then i + n else i) T (liftAll l (if k = 2 then m + 1 else m) n) := by rw [Tm.lift]
theorem lift_var (i : Int) (T : Ty) (m n : Nat) : (Tm.mk 1 i T []).lift m n = .mk 1 (if (m : Int) ≤ i then i + n else i) T [] := by
  rw [lift_mk]; simp [liftAll]
theorem lift_node {k i : Int} {T : Ty} {l : List Tm} {m n : Nat} (hk : k ≠ 1) : (Tm.mk k i T l).lift m n = .mk k i T (liftAll l (if k = 2 then m + 1 else m) n) := by
  rw [lift_mk, if_neg (fun e => hk e.1)]
theorem put_var (i : Int) (T : Ty) (m : Nat) (s : Tm) : (Tm.mk 1 i T []).put m s = if i = (m : Int) then s.lift 0 m else if (m : Int) < i then .mk 1 (i - 1) T [] else .mk 1 i T [] := by
  rw [Tm.put, if_pos rfl]
theorem put_node {k i : Int} {T : Ty} {l : List Tm} {m : Nat} {s : Tm} (hk : k ≠ 1) : (Tm.mk k i T l).put m s = .mk k i T (putAll l (if k = 2 then m + 1 else m) s) := by
  rw [Tm.put, if_neg hk]
theorem var_nil {i : Int} {T : Ty} {l : List Tm} (h : (Tm.mk 1 i T l).ok = true) : l = [] := by
  rw [Tm.ok, Bool.and_eq_true] at h
  exact List.eq_nil_of_length_eq_zero (formed_kind h.1).2.2.1
theorem ok_parts {k i : Int} {T : Ty} {l : List Tm} (h : (Tm.mk k i T l).ok = true) : okAllT l = true := by
  rw [Tm.ok, Bool.and_eq_true] at h; exact h.2
theorem put_var_eq {i : Int} {T : Ty} {m : Nat} {s : Tm} (h : i = (m : Int)) : (Tm.mk 1 i T []).put m s = s.lift 0 m := by rw [put_var, if_pos h]
theorem put_var_gt {i : Int} {T : Ty} {m : Nat} {s : Tm} (h : (m : Int) < i) : (Tm.mk 1 i T []).put m s = .mk 1 (i - 1) T [] := by rw [put_var, if_neg (by omega), if_pos h]
theorem put_var_lt {i : Int} {T : Ty} {m : Nat} {s : Tm} (h : i < (m : Int)) : (Tm.mk 1 i T []).put m s = .mk 1 i T [] := by rw [put_var, if_neg (by omega), if_neg (by omega)]
theorem lift_var_ge {i : Int} {T : Ty} {m n : Nat} (h : (m : Int) ≤ i) : (Tm.mk 1 i T []).lift m n = .mk 1 (i + n) T [] := by rw [lift_var, if_pos h]
theorem lift_var_lt {i : Int} {T : Ty} {m n : Nat} (h : i < (m : Int)) : (Tm.mk 1 i T []).lift m n = .mk 1 i T [] := by rw [lift_var, if_neg (by omega)]

mutual
theorem lift_merge : ∀ (t : Tm) (q a p b : Nat), t.ok = true → p ≤ a → (t.lift q a).lift (q + p) b = t.lift q (a + b)
  | .mk k i T l, q, a, p, b, ho, h => by
    by_cases hk : k = 1
    · subst hk
      obtain rfl := var_nil ho
      by_cases hi : (q : Int) ≤ i
      · rw [lift_var_ge hi, lift_var_ge hi, lift_var_ge (by omega)]; congr 1; omega
      · rw [lift_var_lt (by omega), lift_var_lt (by omega), lift_var_lt (by omega)]
    · rw [lift_node hk, lift_node hk, lift_node hk, show (if k = 2 then q + p + 1 else q + p) = (if k = 2 then q + 1 else q) + p from by split <;> omega, liftAll_merge l _ a p b (ok_parts ho) h]
theorem liftAll_merge : ∀ (l : List Tm) (q a p b : Nat), okAllT l = true → p ≤ a → liftAll (liftAll l q a) (q + p) b = liftAll l q (a + b)
  | [], _, _, _, _, _, _ => by simp [liftAll]
  | t :: r, q, a, p, b, ho, h => by
    simp only [okAllT, Bool.and_eq_true] at ho
    simp only [liftAll, lift_merge t q a p b ho.1 h, liftAll_merge r q a p b ho.2 h]
end
mutual
theorem lift_comm : ∀ (t : Tm) (q p m n : Nat), t.ok = true → (t.lift q p).lift (q + p + m) n = (t.lift (q + m) n).lift q p
  | .mk k i T l, q, p, m, n, ho => by
    by_cases hk : k = 1
    · subst hk
      obtain rfl := var_nil ho
      by_cases hi : (q : Int) ≤ i
      · rw [lift_var_ge hi]
        by_cases hj : ((q + m : Nat) : Int) ≤ i
        · rw [lift_var_ge (i := i) hj, lift_var_ge (by omega), lift_var_ge (by omega)]; congr 1; omega
        · rw [lift_var_lt (i := i) (by omega), lift_var_lt (by omega), lift_var_ge (by omega)]
      · rw [lift_var_lt (by omega), lift_var_lt (by omega), lift_var_lt (by omega), lift_var_lt (by omega)]
    · rw [lift_node hk, lift_node hk, lift_node hk, lift_node hk, show (if k = 2 then q + p + m + 1 else q + p + m) = (if k = 2 then q + 1 else q) + p + m from by split <;> omega,
        liftAll_comm l _ p m n (ok_parts ho), show (if k = 2 then q + 1 else q) + m = (if k = 2 then q + m + 1 else q + m) from by split <;> omega]
theorem liftAll_comm : ∀ (l : List Tm) (q p m n : Nat), okAllT l = true → liftAll (liftAll l q p) (q + p + m) n = liftAll (liftAll l (q + m) n) q p
  | [], _, _, _, _, _ => by simp [liftAll]
  | t :: r, q, p, m, n, ho => by
    simp only [okAllT, Bool.and_eq_true] at ho
    simp only [liftAll, lift_comm t q p m n ho.1, liftAll_comm r q p m n ho.2]
end
mutual
theorem lift_put_hi (r : Tm) (hr : r.ok = true) : ∀ (t : Tm) (p m n : Nat), t.ok = true → (t.lift p m).put (p + m + n) r = (t.put (p + n) r).lift p m
  | .mk k i T l, p, m, n, ho => by
    by_cases hk : k = 1
    · subst hk
      obtain rfl := var_nil ho
      by_cases h1 : i = ((p + n : Nat) : Int)
      · rw [lift_var_ge (by omega), put_var_eq (by omega), put_var_eq h1]
        have := lift_merge r 0 (p + n) p m hr (by omega)
        rw [Nat.zero_add] at this
        rw [this]; congr 1; omega
      · by_cases h2 : ((p + n : Nat) : Int) < i
        · rw [lift_var_ge (by omega), put_var_gt (by omega), put_var_gt h2, lift_var_ge (by omega)]; congr 1; omega
        · rw [put_var_lt (i := i) (by omega)]
          by_cases h3 : (p : Int) ≤ i
          · rw [lift_var_ge h3, put_var_lt (by omega)]
          · rw [lift_var_lt (by omega), put_var_lt (by omega)]
    · rw [lift_node hk, put_node hk, put_node hk, lift_node hk, show (if k = 2 then p + m + n + 1 else p + m + n) = (if k = 2 then p + 1 else p) + m + n from by split <;> omega,
        liftAll_put_hi r hr l _ m n (ok_parts ho), show (if k = 2 then p + 1 else p) + n = (if k = 2 then p + n + 1 else p + n) from by split <;> omega]
theorem liftAll_put_hi (r : Tm) (hr : r.ok = true) : ∀ (l : List Tm) (p m n : Nat), okAllT l = true → putAll (liftAll l p m) (p + m + n) r = liftAll (putAll l (p + n) r) p m
  | [], _, _, _, _ => by simp [liftAll, putAll]
  | t :: l, p, m, n, ho => by
    simp only [okAllT, Bool.and_eq_true] at ho
    simp only [liftAll, putAll, lift_put_hi r hr t p m n ho.1, liftAll_put_hi r hr l p m n ho.2]
end
mutual
theorem lift_put_lo (s : Tm) : ∀ (t : Tm) (q a p : Nat), t.ok = true → p ≤ a → (t.lift q (a + 1)).put (q + p) s = t.lift q a
  | .mk k i T l, q, a, p, ho, h => by
    by_cases hk : k = 1
    · subst hk
      obtain rfl := var_nil ho
      by_cases h1 : (q : Int) ≤ i
      · rw [lift_var_ge h1, lift_var_ge h1, put_var_gt (by omega)]; congr 1; omega
      · rw [lift_var_lt (by omega), lift_var_lt (by omega), put_var_lt (by omega)]
    · rw [lift_node hk, put_node hk, lift_node hk, show (if k = 2 then q + p + 1 else q + p) = (if k = 2 then q + 1 else q) + p from by split <;> omega, liftAll_put_lo s l _ a p (ok_parts ho) h]
theorem liftAll_put_lo (s : Tm) : ∀ (l : List Tm) (q a p : Nat), okAllT l = true → p ≤ a → putAll (liftAll l q (a + 1)) (q + p) s = liftAll l q a
  | [], _, _, _, _, _ => by simp [liftAll, putAll]
  | t :: l, q, a, p, ho, h => by
    simp only [okAllT, Bool.and_eq_true] at ho
    simp only [liftAll, putAll, lift_put_lo s t q a p ho.1 h, liftAll_put_lo s l q a p ho.2 h]
end
mutual
theorem put_lift (a : Tm) (ha : a.ok = true) : ∀ (t : Tm) (p m n : Nat), t.ok = true → (t.put p a).lift (p + m) n = (t.lift (p + m + 1) n).put p (a.lift m n)
  | .mk k i T l, p, m, n, ho => by
    by_cases hk : k = 1
    · subst hk
      obtain rfl := var_nil ho
      by_cases h1 : i = (p : Int)
      · rw [put_var_eq h1, lift_var_lt (by omega), put_var_eq h1]
        have := lift_comm a 0 p m n ha
        simp only [Nat.zero_add] at this
        exact this
      · by_cases h2 : (p : Int) < i
        · rw [put_var_gt h2]
          by_cases h3 : ((p + m + 1 : Nat) : Int) ≤ i
          · rw [lift_var_ge (by omega), lift_var_ge h3, put_var_gt (by omega)]; congr 1; omega
          · rw [lift_var_lt (by omega), lift_var_lt (by omega), put_var_gt h2]
        · rw [put_var_lt (by omega), lift_var_lt (by omega), lift_var_lt (by omega), put_var_lt (by omega)]
    · rw [put_node hk, lift_node hk, lift_node hk, put_node hk, show (if k = 2 then p + m + 1 else p + m) = (if k = 2 then p + 1 else p) + m from by split <;> omega,
        putAll_lift a ha l _ m n (ok_parts ho), show (if k = 2 then p + 1 else p) + m + 1 = (if k = 2 then p + m + 1 + 1 else p + m + 1) from by split <;> omega]
theorem putAll_lift (a : Tm) (ha : a.ok = true) : ∀ (l : List Tm) (p m n : Nat), okAllT l = true → liftAll (putAll l p a) (p + m) n = putAll (liftAll l (p + m + 1) n) p (a.lift m n)
  | [], _, _, _, _ => by simp [liftAll, putAll]
  | t :: l, p, m, n, ho => by
    simp only [okAllT, Bool.and_eq_true] at ho
    simp only [liftAll, putAll, put_lift a ha t p m n ho.1, putAll_lift a ha l p m n ho.2]
end
mutual
/-- What is put in can be exchanged. -/
theorem put_put (a r : Tm) (ha : a.ok = true) (hr : r.ok = true) : ∀ (t : Tm) (m n : Nat), t.ok = true → (t.put m a).put (m + n) r = (t.put (m + n + 1) r).put m (a.put n r)
  | .mk k i T l, m, n, ho => by
    by_cases hk : k = 1
    · subst hk
      obtain rfl := var_nil ho
      by_cases h1 : i = (m : Int)
      · rw [put_var_eq h1, put_var_lt (by omega), put_var_eq h1]
        have := lift_put_hi r hr a 0 m n ha
        simp only [Nat.zero_add] at this
        exact this
      · by_cases h2 : (m : Int) < i
        · rw [put_var_gt h2]
          by_cases h3 : i = ((m + n + 1 : Nat) : Int)
          · rw [put_var_eq (by omega), put_var_eq h3]
            have := lift_put_lo (a.put n r) r 0 (m + n) m hr (by omega)
            rw [Nat.zero_add] at this
            exact this.symm
          · by_cases h4 : ((m + n + 1 : Nat) : Int) < i
            · rw [put_var_gt (by omega), put_var_gt h4, put_var_gt (by omega)]
            · rw [put_var_lt (by omega), put_var_lt (by omega), put_var_gt h2]
        · rw [put_var_lt (by omega), put_var_lt (by omega), put_var_lt (by omega), put_var_lt (by omega)]
    · rw [put_node hk, put_node hk, put_node hk, put_node hk, show (if k = 2 then m + n + 1 else m + n) = (if k = 2 then m + 1 else m) + n from by split <;> omega,
        putAll_put a r ha hr l _ n (ok_parts ho), show (if k = 2 then m + 1 else m) + n + 1 = (if k = 2 then m + n + 1 + 1 else m + n + 1) from by split <;> omega]
theorem putAll_put (a r : Tm) (ha : a.ok = true) (hr : r.ok = true) : ∀ (l : List Tm) (m n : Nat), okAllT l = true → putAll (putAll l m a) (m + n) r = putAll (putAll l (m + n + 1) r) m (a.put n r)
  | [], _, _, _ => by simp [putAll]
  | t :: l, m, n, ho => by
    simp only [okAllT, Bool.and_eq_true] at ho
    simp only [putAll, put_put a r ha hr t m n ho.1, putAll_put a r ha hr l m n ho.2]
end

mutual
theorem lift_zero : ∀ (t : Tm) (m : Nat), t.lift m 0 = t
  | .mk k i T l, m => by
    rw [lift_mk, liftAll_zero l]
    congr 1
    split <;> omega
theorem liftAll_zero : ∀ (l : List Tm) (m : Nat), liftAll l m 0 = l
  | [], _ => by simp [liftAll]
  | t :: r, m => by simp only [liftAll, lift_zero t m, liftAll_zero r m]
end
mutual
/-- A variable that was lifted away does not stand anywhere. -/
theorem lift_occ : ∀ (t : Tm) (q a p : Nat), t.ok = true → p ≤ a → (t.lift q (a + 1)).occ (q + p) = 0
  | .mk k i T l, q, a, p, ho, h => by
    by_cases hk : k = 1
    · subst hk
      obtain rfl := var_nil ho
      by_cases hi : (q : Int) ≤ i
      · rw [lift_var_ge hi, Tm.occ, if_pos rfl, if_neg (by omega)]
      · rw [lift_var_lt (by omega), Tm.occ, if_pos rfl, if_neg (by omega)]
    · rw [lift_node hk, Tm.occ, if_neg hk, show (if k = 2 then q + p + 1 else q + p) = (if k = 2 then q + 1 else q) + p from by split <;> omega]
      exact liftAll_occ l _ a p (ok_parts ho) h
theorem liftAll_occ : ∀ (l : List Tm) (q a p : Nat), okAllT l = true → p ≤ a → occAll (liftAll l q (a + 1)) (q + p) = 0
  | [], _, _, _, _, _ => by simp [liftAll, occAll]
  | t :: r, q, a, p, ho, h => by
    simp only [okAllT, Bool.and_eq_true] at ho
    simp only [liftAll, occAll, lift_occ t q a p ho.1 h, liftAll_occ r q a p ho.2 h]
end
end Go.Proofs.YtnodebcbnfkioaaDoor
namespace Go.Proofs.YtnodebcbnfkioaaDoor
open Go.RowKit Go.Shelf Go.Maps Go.Sort

attribute [local go_sem] Oper.semAt_some

/-! Mathematics. -/
/-- A list holds the free variables of a term, ascending. -/
def UsesOf (t : Tm) (L : List Int) : Prop := L.Pairwise (· < ·) ∧ ∀ x : Int, x ∈ L ↔ ∃ y ∈ t.vars 0, (y.2 : Int) ≤ y.1 ∧ x = y.1 - y.2
theorem rising_one : ∀ {l m : List Int}, l.Pairwise (· < ·) → m.Pairwise (· < ·) → (∀ x, x ∈ l ↔ x ∈ m) → l = m
  | [], [], _, _, _ => rfl
  | [], b :: r, _, _, h => by have := (h b).2 (by simp); simp at this
  | a :: l, [], _, _, h => by have := (h a).1 (by simp); simp at this
  | a :: l, b :: m, hl, hm, h => by
    rw [List.pairwise_cons] at hl hm
    have e : a = b := by
      have h1 := (h a).1 (by simp)
      have h2 := (h b).2 (by simp)
      rw [List.mem_cons] at h1 h2
      rcases h1 with h1 | h1
      · exact h1
      · rcases h2 with h2 | h2
        · exact h2.symm
        · have := hm.1 a h1; have := hl.1 b h2; omega
    subst e
    rw [rising_one hl.2 hm.2 fun x => ?_]
    have hx := h x
    rw [List.mem_cons, List.mem_cons] at hx
    constructor
    · intro k
      rcases hx.1 (.inr k) with e | e
      · have := hl.1 x k; omega
      · exact e
    · intro k
      rcases hx.2 (.inr k) with e | e
      · have := hm.1 x k; omega
      · exact e
/-- The set of the free variables that have come. -/
def usesD (xs : List (Int × Nat)) : DataW Unit := xs.foldl (fun D x => if (x.2 : Int) ≤ x.1 then D.put (.int .i64 (x.1 - x.2)) (.lit (.bool true)) else D) (.map [])
theorem usesD_snoc (pre : List (Int × Nat)) (x : Int × Nat) : usesD (pre ++ [x]) = if (x.2 : Int) ≤ x.1 then (usesD pre).put (.int .i64 (x.1 - x.2)) (.lit (.bool true)) else usesD pre := by simp [usesD]
theorem isKey_int (n : Int) : WideAt.IsKeyLit (.int .i64 n) := trivial
theorem usesD_facts : ∀ (n : Nat) (xs : List (Int × Nat)), xs.length = n → Tidy (usesD xs) ∧ Maps.size (usesD xs) ≤ xs.length ∧ ∀ z : Int, has (usesD xs) (.int .i64 z) = true ↔ ∃ y ∈ xs, (y.2 : Int) ≤ y.1 ∧ z = y.1 - y.2 := by
  intro n
  induction n with
  | zero =>
    intro xs h
    obtain rfl := List.eq_nil_of_length_eq_zero h
    exact ⟨tidy_empty, by simp [usesD, Maps.size], fun z => by simp [usesD, Maps.has]⟩
  | succ n ih =>
    intro xs h
    rcases List.eq_nil_or_concat xs with rfl | ⟨pre, x, rfl⟩
    · simp at h
    · simp only [List.concat_eq_append] at h ⊢
      obtain ⟨h1, h2, h3⟩ := ih pre (by simp at h; exact h)
      rw [usesD_snoc]
      by_cases hx : (x.2 : Int) ≤ x.1
      · rw [if_pos hx]
        refine ⟨h1.put (isKey_int _) _, ?_, fun z => ?_⟩
        · have := size_put (k := .int .i64 (x.1 - x.2)) h1 (.lit (.bool true))
          rw [this]
          simp only [List.length_append, List.length_cons, List.length_nil]
          split <;> omega
        · by_cases hz : z = x.1 - x.2
          · subst hz
            rw [has_put_same h1.isMap (isKey_int _)]
            exact ⟨fun _ => ⟨x, by simp, hx, rfl⟩, fun _ => rfl⟩
          · rw [has_put_other (fun e => hz (by simpa using e)), h3]
            constructor
            · rintro ⟨y, hy, h⟩; exact ⟨y, by simp [hy], h⟩
            · rintro ⟨y, hy, h⟩
              rcases List.mem_append.1 hy with hy | hy
              · exact ⟨y, hy, h⟩
              · rw [List.mem_singleton.1 hy] at h; exact (hz h.2).elim
      · rw [if_neg hx]
        refine ⟨h1, by simp; omega, fun z => ?_⟩
        rw [h3]
        constructor
        · rintro ⟨y, hy, h⟩; exact ⟨y, by simp [hy], h⟩
        · rintro ⟨y, hy, h⟩
          rcases List.mem_append.1 hy with hy | hy
          · exact ⟨y, hy, h⟩
          · rw [List.mem_singleton.1 hy] at h; exact (hx h.1).elim
/-- The keys, sorted. -/
theorem usesD_sorted {P : Program} {k : TypeId} {R : Value → Option (DataW Unit × List MemPlace)} {w : World} {b n : Nat} {t : Tm} {ss : List Int} (hown : w.ownsMap P k R b n (usesD (t.vars 0))) (K : Keyed P k) (hk : P.underlying k = some (.int .i64)) (hp : ss.Perm (intKeys (usesD (t.vars 0)))) :
    UsesOf t (ss.mergeSort (fun x y => decide (x ≤ y))) := by
  obtain ⟨es, hD, hpw, _⟩ := hown.entries K
  obtain ⟨es', hD', hko⟩ := hown.keysOf
  obtain rfl : es = es' := by rw [hD] at hD'; simpa using hD'
  have hint : ∀ p ∈ es, ∃ x, p.1 = .int .i64 x := fun p hp => by obtain ⟨v, hv⟩ := hko p hp; obtain ⟨x, _, hx, _⟩ := Maps.keyOf_i64 hk hv; exact ⟨x, hx⟩
  have hmem := (usesD_facts _ (t.vars 0) rfl).2.2
  rw [hD] at hp hmem
  have hnd : (intKeys (.map es)).Nodup := by
    show (es.map fun p => Go.intOf p.1).Nodup
    refine List.pairwise_map.2 (hpw.imp_of_mem fun {p q} hp' hq' hne e => hne ?_)
    obtain ⟨a, ha⟩ := hint p hp'
    obtain ⟨b, hb⟩ := hint q hq'
    rw [ha, hb] at e ⊢
    exact congrArg _ e
  have hk2 : ∀ x, x ∈ intKeys (.map es) ↔ has (.map es) (.int .i64 x) = true := fun x => by
    rw [has_eq, List.any_eq_true]
    show x ∈ es.map (fun p => Go.intOf p.1) ↔ _
    rw [List.mem_map]
    constructor
    · rintro ⟨p, hp', rfl⟩
      obtain ⟨a, ha⟩ := hint p hp'
      exact ⟨p, hp', by rw [ha]; simp [Lit.sameKey, Go.intOf]⟩
    · rintro ⟨p, hp', hs⟩
      obtain ⟨a, ha⟩ := hint p hp'
      rw [ha] at hs
      exact ⟨p, hp', by rw [ha]; simpa [Lit.sameKey, Go.intOf] using hs⟩
  have hperm := (List.mergeSort_perm ss (fun x y => decide (x ≤ y))).trans hp
  refine ⟨?_, fun x => by rw [hperm.mem_iff, hk2, hmem]⟩
  have hs := List.pairwise_mergeSort (le := fun x y : Int => decide (x ≤ y)) (fun a b c h1 h2 => by simp only [decide_eq_true_eq] at *; omega) (fun a b => by simp only [Bool.or_eq_true, decide_eq_true_eq]; omega) ss
  have hn : (ss.mergeSort (fun x y => decide (x ≤ y))).Nodup := hperm.nodup_iff.2 hnd
  refine (hs.and hn).imp fun {a b} h => ?_
  have h1 := h.1
  simp only [decide_eq_true_eq] at h1
  have h2 := h.2
  omega

/-! The walk. -/
/-- How the loop stands: the map's block, and the local that holds the map. -/
def UsesI (w : World) (pre : List (Int × Nat)) (W : World) : Prop :=
  Below w.heap.size w W ∧ Blk W (w.heap.size + 1) 41 #[.map (some w.heap.size)] ∧ W.ownsMap Tryd.prog 3 (plainElem (H := Unit) Tryd.prog 4) w.heap.size pre.length (usesD pre)
theorem usesI_low {w : World} {B : Nat} (hB : w.heap.size + 2 ≤ B) (pre : List (Int × Nat)) : Low B (UsesI w pre) := by
  rintro W W' ⟨h0, h1, h2⟩ hb
  refine ⟨h0.trans (hb.mono (by omega)), h1.below hb (by omega), ?_⟩
  obtain ⟨es, ck, hh, hF, hs, hD⟩ := h2
  exact ⟨es, ck, (hb.block _ (by omega)).trans hh, hF, hs, hD⟩
theorem map3_facts (w : World) (c2 c3 : Array Value) (t2 t3 : TypeId) : ∃ W, W = ((w.alloc (.map #[] 0)).alloc (.cells c2 t2)).alloc (.cells c3 t3) ∧
    Below w.heap.size w W ∧ W.heap.size = w.heap.size + 3 ∧ Blk W (w.heap.size + 1) t2 c2 ∧ Blk W (w.heap.size + 1 + 1) t3 c3 ∧ W.ownsMap Tryd.prog 3 (plainElem (H := Unit) Tryd.prog 4) w.heap.size 0 (.map []) := by
  have hm := World.ownsMap_made w Tryd.prog 3 (plainElem (H := Unit) Tryd.prog 4)
  have b1 := (Below.refl _ w).alloc (Nat.le_refl _) (.map #[] 0)
  have z1 := World.size_alloc w (.map #[] 0)
  generalize w.alloc (.map #[] 0) = W1 at hm b1 z1 ⊢
  obtain ⟨b2, z2, k2⟩ := new_blk b1 b1.size c2 t2
  have hm2 := hm.alloc (.cells c2 t2)
  generalize W1.alloc (.cells c2 t2) = W2 at b2 z2 k2 hm2 ⊢
  rw [z1] at k2 z2
  obtain ⟨b3, z3, k3⟩ := new_blk b2 b2.size c3 t3
  rw [z2] at k3
  exact ⟨_, rfl, b3, by omega, k2.alloc _, k3, hm2.alloc _⟩

/-- maps.Keys hands back its iterator. -/
theorem keys_any (mb : Option Nat) (w : World) : Calls Tryd.prog 60 #[.map mb] w fun e w' =>
    e = .returned (.func (.func 95) #[] #[.pointer (some ⟨w.heap.size, 0, none⟩)]) ∧ w' = w.alloc (.cells #[.map mb] 41) :=
  (callsIn_wide (n := 5)).1 (AnyZI.keys_in Tryd.keysU Fence.wide 5 trivial rfl mb w)
theorem sorts_any (m : Nat) : AnyZI.SortsIn Tryd.prog Tryd.sortedU_ren Fence.wide m :=
  ⟨fun blk off cap ss W hH hblk hsz => callsIn_wide.2 (AnyM.slices_Sort_int Tryd.sortU blk off cap ss W hH hblk hsz),
   fun p cap W => callsIn_wide.2 (AnyM.slices_Sort_int_none Tryd.sortU p cap W)⟩
/-- slices.Sorted of the keys of a map. -/
theorem sorted_any {b nn Bm : Nat} {D0 : DataW Unit} {R : Value → Option (DataW Unit × List MemPlace)} {w : World} (hBm : Bm < w.heap.size) (hm : w.cell? ⟨Bm, 0, none⟩ = some (.map (some b))) (hown : w.ownsMap Tryd.prog 3 R b nn D0) (hmax : Maps.size D0 ≤ 1000000) :
    Calls Tryd.prog 59 #[.func (.func 95) #[] #[.pointer (some ⟨Bm, 0, none⟩)]] w fun e w' => ∃ (v : Value) (ss : List Int), e = .returned v ∧ ss.Perm (intKeys D0) ∧
      w'.ownsRow w.heap.size 3 1 v ss.length ((ss.mergeSort (fun x y => decide (x ≤ y))).map encZ) ∧ Below w.heap.size w w' := by
  have hseq : SeqGives Fence.wide 2 Tryd.prog 95 #[.pointer (some ⟨Bm, 0, none⟩)] encZ (fun ss => ss.Perm (intKeys D0)) (Maps.size D0) w :=
    AnyZI.keys_gives (ρ := Tryd.keysU_ren) { Tryd.keysU with } Fence.wide _ trivial rfl (by omega) Bm b nn D0 _ hBm hm hown
  have cS := AnyZI.sorted_in Tryd.sortedU Fence.wide 5 trivial trivial trivial trivial rfl (by omega) (sorts_any _) (enters_of Tryd.func94 (by kernel_rfl) rfl) 95 #[.pointer (some ⟨Bm, 0, none⟩)] trivial (enters_of Tryd.func95 (by kernel_rfl) rfl) _ _ (by unfold maxLen; omega) (by omega) _ hseq
  change CallsIn _ _ Tryd.prog 59 _ _ _ at cS
  refine ((callsIn_wide (n := 5)).1 cS).mono ?_
  rintro e w' ⟨v, ss, rfl, hS, hrow, _, hb⟩
  exact ⟨v, ss, rfl, hS, hrow, hb⟩

set_option maxRecDepth 100000 in
set_option maxHeartbeats 2000000 in
theorem uses_any (t : Tm) (v : Value) (w : World) (hsz : t.bulk ≤ 390000) (he : t.err = 0) (hlow : t.low 1000000 = true) (htab : Tab w) (hT : IsTm (· < w.heap.size) w t v) :
    Calls Tryd.prog 15 #[v] w fun e w' => ∃ (s : Value) (L : List Int), e = .returned (.tuple #[s, .int .i64 0]) ∧ UsesOf t L ∧ w'.ownsRow w.heap.size 3 1 s L.length (L.map encZ) ∧ Below w.heap.size w w' := by
  obtain ⟨Bt, d, A, c, rfl, _⟩ := hT.form
  have hmm := @run_makeMap Tryd.prog
  have hok := (errT_zero.1 he).1
  have HT := Lib.hid (And.intro hT (And.intro htab (And.intro hok (And.intro he hlow))))
  clear hT htab hok he hlow
  refine (callsIn_wide (n := 8)).1 (callsIn_of_wp_marks Tryd.func15 rfl trivial ?_ rfl)
  simp only [Tryd.ntmps15, List.size_toArray, List.length_cons, List.length_nil, Nat.reduceAdd, Nat.reduceSub, Array.replicate_succ, Array.replicate_zero, List.push_toArray, List.append_toArray, List.nil_append, List.cons_append]
  obtain ⟨b0, z0, k0⟩ := new_blk (Below.refl w.heap.size w) (Nat.le_refl _) #[.int .i64 t.kind, .int .i64 t.index, .int .i64 t.type.kind, .slice Bt t.type.args.length d, .slice A t.args.length c] 34
  have H0 := Lib.hid (And.intro b0 k0)
  clear b0 z0 k0
  gi_wp2_with (first
    | (refine ⟨trivial, ?_⟩; gi_at_call 57; refine (callsIn_wide.2 (checkT_ok (t := t) HT.out.2.2.2.1 (by omega) (HT.out.2.1.after H0.out.1) (IsTm.boxed HT.out.1 H0.out.1))).mono ?_; rintro e w1 ⟨rfl, hb1⟩
       have H1 := Lib.hid (And.intro (H0.out.1.trans (hb1.mono H0.out.1.size)) (H0.out.2.below hb1 H0.out.2.lt))
       obtain ⟨r0, r1, r2, r3, r4, _, _, _, _, _⟩ := H1.out.2.facts5
       obtain ⟨s0, s1, s2, s3, s4, _, _, _, _, _⟩ := ((H1.out.2.alloc (.map #[] 0)).alloc (.cells #[.map (some w1.heap.size)] 41)).facts5
       clear hb1)
    | (refine ⟨trivial, ?_⟩; gi_at_call 58; refine (callsIn_wide.2 (variables_any _ _ _ _ _ _)).mono ?_; rintro e w' ⟨rfl, rfl⟩))
  obtain ⟨W0, hW0, hb, hz, k2, k3, hm0⟩ := map3_facts w1 #[.map (some w1.heap.size)] #[.int .i64 t.kind, .int .i64 t.index, .int .i64 t.type.kind, .slice Bt t.type.args.length d, .slice A t.args.length c] 41 34
  rw [← hW0]
  clear hW0 r0 r1 r2 r3 r4 s0 s1 s2 s3 s4
  have hz1 := H1.out.1.size
  have hT0 := HT.out.1.keep (S' := (· < w1.heap.size)) (w' := W0) (fun b h => Nat.lt_of_lt_of_le h hz1) (fun p hp => (hb.cell (Nat.lt_of_lt_of_le hp hz1)).trans (H1.out.1.cell hp))
  refine range_wp (by omega) (gf := 91) (lb := #[.pointer (some ⟨w1.heap.size + 1 + 1, 0, none⟩)]) rfl (enters_of Tryd.func91 (by kernel_rfl) rfl) (n₀ := w1.heap.size) (by omega)
    (enc := EncVar) (xs := t.vars 0) (fun x args W h => by rw [show args = _ from h]; rfl)
    (vars_iter _ _ _ t Bt A d c W0 (by omega) hT0 (by omega) k3)
    (UsesI w1) (fun _ _ => False) (fun pre => usesI_low (by omega) pre) (fun c W W' h _ => h) ⟨hb, k2, hm0⟩ ?round ?done ?stop
  case round =>
    rintro pre x args W ⟨j0, j1, j2⟩ hpre hW hx
    have hx' : args = #[.int .i64 x.1, .int .i64 x.2] := hx
    subst hx'
    gi_wp2
    refine ⟨Below.refl _ _, ?_⟩
    rintro W₂ hg ⟨i0, i1, i2⟩
    have hmem : x ∈ t.vars 0 := hpre.subset (by simp)
    have hlx := vars_low t 0 HT.out.2.2.2.2 x hmem
    have hnx := vars_nat t 0 HT.out.2.2.1 x hmem
    have hdx := (vars_deep t 0 x hmem).2
    have hln := hpre.length_le
    have hvb := vars_bulk t 0
    simp only [List.length_append, List.length_cons, List.length_nil] at hln
    have HSN := Lib.hid (usesD_snoc pre x)
    obtain ⟨xi, xd⟩ := x
    simp only at hlx hnx hdx
    obtain ⟨q1, f1⟩ := i1.facts1
    have hpl : pre.length < maxLen := by unfold maxLen; omega
    clear hg hmem hpre j0 j1 j2
    by_cases hge : (xd : Int) ≤ xi
    · have e1 : decide (xi ≥ (xd : Int)) = true := decide_eq_true hge
      have e2 : decide ((xd : Int) ≤ xi) = true := decide_eq_true hge
      have hwf : (Lit.int .i64 (xi - xd)).wf = true := WalkArith.wf_i64 (by omega)
      gi_wp2_with (gi_at_mapUpdate; refine wpListIn_mapUpdate_own _ rfl _ _ _ 41 rfl 3 4 (Maps.int_keyed Tryd.underlying3) Tryd.underlying41 _ w1.heap.size pre.length _ rfl i2 hpl _ _ _ rfl rfl (Maps.keyOf_int_mk Tryd.underlying3 hwf) _ [] (plainElem_bool Tryd.underlying4 true) ?_; intro w3 hown3 hgrow3)
      refine ⟨Kept.of_grownBy hgrow3 (fun k e => by cases e; omega), i0.grown hgrow3 i0.size (fun k e => by cases e; exact Nat.le_refl _), i1.grown hgrow3 (by simp), ?_⟩
      rw [HSN.out, if_pos hge, List.length_append]
      exact hown3
    · have e1 : decide (xi ≥ (xd : Int)) = false := decide_eq_false hge
      have e2 : decide ((xd : Int) ≤ xi) = false := decide_eq_false hge
      gi_wp2
      refine ⟨Kept.refl _ _ _, i0, i1, ?_⟩
      rw [HSN.out, if_neg (by omega)]
      exact i2.mono (by simp)
  case done =>
    rintro W ⟨j0, j1, j2⟩ hzW hD
    obtain ⟨q1, f1⟩ := j1.facts1
    have hsz2 := (usesD_facts _ (t.vars 0) rfl).2.1
    have hvb := vars_bulk t 0
    have HJ := Lib.hid (And.intro j0 j2)
    have hj0 := j0.size
    have hbx := below_box W (.cells #[.map (some w1.heap.size)] 41)
    have kx := Blk.new W 41 #[.map (some w1.heap.size)]
    have HX := Lib.hid (And.intro hbx kx)
    clear j0 j2 hbx kx
    gi_wp2_with (first
      | (refine ⟨trivial, ?_⟩; gi_at_call 60; refine (callsIn_wide.2 (keys_any _ _)).mono ?_; rintro e w' ⟨rfl, rfl⟩)
      | (refine ⟨trivial, ?_⟩; gi_at_call 59; refine (callsIn_wide.2 (sorted_any (Bm := W.heap.size) (by simp) HX.out.2.facts1.1 (HJ.out.2.alloc _) (by omega))).mono ?_; rintro e w4 ⟨v4, ss, rfl, hp4, hrow4, hb4⟩))
    have hz4 := hb4.size
    simp only [World.size_alloc] at hz4
    have hb5 : Below W.heap.size W w4 := HX.out.1.trans (hb4.mono (by simp))
    have hD4 : w4.heap[W0.heap.size]? = some (.deferred (some [])) := (hb5.block _ hzW).trans hD
    rw [hz] at hD4 hzW
    have hg4 := grownBy_putObj' w4 (w1.heap.size + 3) (.deferred none)
    have hr5 := hrow4.kept hg4 (by
      cases hv : v4.ownBlock with
      | none => exact .inl rfl
      | some q => exact .inr fun e => by have h1 := (hrow4.lt q hv).1; cases e; simp at h1; omega)
    have hBW : Below w.heap.size w w4 := H1.out.1.trans ((HJ.out.1.trans (hb5.mono hj0)).mono hz1)
    refine marks_end (v := .tuple #[v4, .int .i64 0]) hD4 (by simp [results, Tryd.results15, go_sem]) ⟨v4, ss.mergeSort (fun x y => decide (x ≤ y)), rfl, usesD_sorted HJ.out.2 (Maps.int_keyed Tryd.underlying3) Tryd.underlying3 hp4, ?_, below_put hBW _ (Nat.le_refl _) (by omega)⟩
    rw [List.length_mergeSort]
    exact ownsRow_base_a hr5 (by rw [World.size_alloc]; omega)
  case stop =>
    rintro c W h
    exact h.elim
end Go.Proofs.YtnodebcbnfkioaaDoor
namespace Go.Proofs.YtnodebcbnfkioaaDoor
open Go.RowKit

theorem two_boxes (w : World) (c1 c2 : Array Value) (t1 t2 : TypeId) : ∃ W, W = (w.alloc (.cells c1 t1)).alloc (.cells c2 t2) ∧ Below w.heap.size w W ∧ W.heap.size = w.heap.size + 2 ∧ Blk W w.heap.size t1 c1 ∧ Blk W (w.heap.size + 1) t2 c2 := by
  obtain ⟨b1, z1, k1⟩ := new_blk (Below.refl w.heap.size w) (Nat.le_refl _) c1 t1
  generalize w.alloc (.cells c1 t1) = W1 at b1 z1 k1 ⊢
  obtain ⟨b2, z2, k2⟩ := new_blk b1 b1.size c2 t2
  rw [z1] at k2 z2
  exact ⟨_, rfl, b2, by omega, k1.alloc _, k2⟩
/-- What stands for no term. -/
def noTm : Tm := .mk 0 0 .zero []
theorem isTm_no (S : Nat → Prop) (w : World) : IsTm S w noTm (.agg #[.int .i64 0, .int .i64 0, .int .i64 0, .slice none 0 0, .slice none 0 0]) :=
  isTm_iff.2 ⟨rfl, rfl, (show IsTy S w (.mk 0 []) _ from by unfold IsTy; exact ⟨none, 0, rfl, fun h => (h rfl).elim⟩), ⟨none, 0, rfl, fun h => (h rfl).elim⟩⟩

set_option maxRecDepth 100000 in
set_option maxHeartbeats 4000000 in
theorem lowerTop_any (t : Tm) (v : Value) (m : Nat) (S : Nat → Prop) (w : World) (hb : t.bulk ≤ 390000) (he : t.err = 0) (hlow : t.low 536870912 = true) (hm : m ≤ 4096) (hocc : t.occ m = 0) (htab : Tab w) (hS : ∀ b, S b → b < w.heap.size) (hT : IsTm S w t v) :
    Calls Tryd.prog 170 #[v, .int .i64 m] w (GivesTm S (t.put m noTm) w) := by
  obtain ⟨B, d, A, c, rfl, _⟩ := IsTm.form hT
  have hok := (errT_zero.1 he).1
  have HOK := Lib.hid (And.intro hok (And.intro hlow (And.intro he hocc)))
  clear hok hlow he hocc
  go_enter Tryd.func170, Tryd.ntmps170
  go_upto_region 1 with fail
  obtain ⟨W, hW, bW, zW, k0, k1⟩ := two_boxes w #[.int .i64 t.kind, .int .i64 t.index, .int .i64 t.type.kind, .slice B t.type.args.length d, .slice A t.args.length c] #[.int .i64 0, .int .i64 0, .int .i64 0, .slice none 0 0, .slice none 0 0] 34 34
  rw [← hW]
  have HB := Lib.hid (And.intro bW zW)
  have HK := Lib.hid (And.intro k0 k1)
  have HS := Lib.hid hS
  have HT := Lib.hid (IsTm.keep (fun _ h => h) (fun r hr => bW.cell (hS _ hr)) _ hT)
  have HTab := Lib.hid (htab.after bW)
  obtain ⟨r0, r1, r2, r3, r4, _, _, _, _, _⟩ := k0.facts5
  clear hW bW zW k0 k1 hT hS htab
  go_wp2_with fail
  refine (checkT_ok (t := t) (w := W) HOK.out.2.2.1 (by omega) HTab.out (IsTm.keep (fun b h => Nat.lt_of_lt_of_le (HS.out b h) HB.out.1.size) (fun _ _ => rfl) _ HT.out)).mono ?_
  rintro e w1 ⟨rfl, hc1⟩
  have k0' := HK.out.1.below hc1 HK.out.1.lt
  obtain ⟨s0, s1, s2, s3, s4, _, _, _, _, _⟩ := k0'.facts5
  have HC1 := Lib.hid hc1
  clear hc1 k0' r0 r1 r2 r3 r4
  go_wp2_with fail
  refine (within_ok m w1 (by omega) (by omega)).mono ?_
  rintro e w1' ⟨rfl, rfl⟩
  go_wp2_with fail
  have T1 := Lib.hid (IsTm.keep (S' := S) (fun _ h => h) (fun p hp => HC1.out.cell (Nat.lt_of_lt_of_le (HS.out _ hp) HB.out.1.size)) _ HT.out)
  refine (occurs_any t _ m w1 (by omega) HOK.out.1 (low_mono (by omega) t HOK.out.2.1) (by omega) (IsTm.keep (fun b h => Nat.lt_of_lt_of_le (HS.out b h) (Nat.le_trans HB.out.1.size HC1.out.size)) (fun _ _ => rfl) _ T1.out)).mono ?_
  rintro e w2 ⟨he2, hc2⟩
  rw [HOK.out.2.2.2] at he2
  subst he2
  have HC2 := Lib.hid (show Below W.heap.size W w2 from HC1.out.trans (hc2.mono HC1.out.size))
  have k0' := HK.out.1.below HC2.out HK.out.1.lt
  obtain ⟨r0, r1, r2, r3, r4, _, _, _, _, _⟩ := k0'.facts5
  clear hc2 k0' s0 s1 s2 s3 s4
  go_wp2_with fail
  refine (put_when t noTm _ _ m S w2 (by omega) HOK.out.1 (low_mono (by omega) t HOK.out.2.1) (fun h => (h HOK.out.2.2.2).elim) (by omega) (fun b h => Nat.lt_of_lt_of_le (HS.out b h) (Nat.le_trans HB.out.1.size HC2.out.size)) (IsTm.keep (fun _ h => h) (fun p hp => HC2.out.cell (Nat.lt_of_lt_of_le (HS.out _ hp) HB.out.1.size)) _ HT.out) (isTm_no _ _)).mono ?_
  rintro e w3 ⟨v', rfl, ht, hb'⟩
  obtain ⟨B6, e6, A6, c6, rfl, _⟩ := IsTm.form ht
  have hz := HB.out.2
  have hzc := HC2.out.size
  have HC3 := Lib.hid (show Below W.heap.size W w3 from HC2.out.trans (hb'.mono HC2.out.size))
  have k1' := HK.out.2.below HC3.out HK.out.2.lt
  obtain ⟨_, _, _, _, _, f0, f1, f2, f3, f4⟩ := k1'.facts5
  have HE := Lib.hid (And.intro k1' ht)
  clear k1' ht hb' r0 r1 r2 r3 r4
  generalize hP : t.put m noTm = P at *
  go_wp2_with fail
  obtain ⟨y0, y1, y2, y3, y4⟩ := (HE.out.1.set5 (.int .i64 P.kind) (.int .i64 P.index) (.int .i64 P.type.kind) (.slice B6 P.type.args.length e6) (.slice A6 P.args.length c6)).cells5
  have hg := only_set5 w3 (w.heap.size + 1) (.int .i64 P.kind) (.int .i64 P.index) (.int .i64 P.type.kind) (.slice B6 P.type.args.length e6) (.slice A6 P.args.length c6)
  exact bodyPost_ret (v := .tuple #[.agg #[.int .i64 P.kind, .int .i64 P.index, .int .i64 P.type.kind, .slice B6 P.type.args.length e6, .slice A6 P.args.length c6], .int .i64 0]) (by simp [results, Tryd.results170, go_sem, y0, y1, y2, y3, y4]) rfl
    (gives_end HS.out (by omega) (HB.out.1.trans (HC3.out.mono HB.out.1.size)) hg (lo := w2.heap.size) (by omega) HE.out.2)
end Go.Proofs.YtnodebcbnfkioaaDoor
namespace Go.Proofs.YtnodebcbnfkioaaDoor
open Go.RowKit

/-- Where a variable goes. -/
def upVar (m n : Nat) (x : Int × Nat) : Int × Nat := (if ((m + x.2 : Nat) : Int) ≤ x.1 then x.1 + (n : Int) else x.1, x.2)
mutual
theorem vars_lift (m n : Nat) : ∀ (t : Tm) (d : Nat), t.ok = true → (t.lift (m + d) n).vars d = (t.vars d).map (upVar m n)
  | .mk k i T l, d, ho => by
    by_cases hk : k = 1
    · subst hk
      obtain rfl := var_nil ho
      rw [lift_var, vars_mk, if_pos rfl, vars_mk, if_pos rfl]
      rfl
    · rw [lift_node hk, vars_mk, if_neg hk, vars_mk, if_neg hk, show (if k = 2 then m + d + 1 else m + d) = m + (if k = 2 then d + 1 else d) from by split <;> omega]
      exact varsAll_lift m n l _ (ok_parts ho)
theorem varsAll_lift (m n : Nat) : ∀ (l : List Tm) (d : Nat), okAllT l = true → varsAll (liftAll l (m + d) n) d = (varsAll l d).map (upVar m n)
  | [], _, _ => by simp [liftAll, varsAll]
  | t :: r, d, ho => by
    simp only [okAllT, Bool.and_eq_true] at ho
    simp only [liftAll, varsAll, List.map_append, vars_lift m n t d ho.1, varsAll_lift m n r d ho.2]
end

/-- A variable that is free, by its number. -/
def FreeIn (L : List (Int × Nat)) (x : Int) : Prop := ∃ y ∈ L, (y.2 : Int) ≤ y.1 ∧ x = y.1 - y.2
theorem freeIn_append {L M : List (Int × Nat)} {x : Int} : FreeIn (L ++ M) x ↔ FreeIn L x ∨ FreeIn M x := by
  unfold FreeIn
  constructor
  · rintro ⟨y, hy, h⟩
    rcases List.mem_append.1 hy with hy | hy
    · exact .inl ⟨y, hy, h⟩
    · exact .inr ⟨y, hy, h⟩
  · rintro (⟨y, hy, h⟩ | ⟨y, hy, h⟩)
    · exact ⟨y, List.mem_append_left _ hy, h⟩
    · exact ⟨y, List.mem_append_right _ hy, h⟩
theorem freeIn_one {i : Int} {d : Nat} {x : Int} : FreeIn [(i, d)] x ↔ (d : Int) ≤ i ∧ x = i - d := by
  constructor
  · rintro ⟨y, hy, h, rfl⟩
    rw [List.mem_singleton.1 hy] at h ⊢
    exact ⟨h, rfl⟩
  · rintro ⟨h, rfl⟩
    exact ⟨_, List.mem_singleton.2 rfl, h, rfl⟩

mutual
theorem vars_from (c : Nat) : ∀ (t : Tm) (d : Nat), t.vars (d + c) = (t.vars d).map fun y => (y.1, y.2 + c)
  | .mk k i T l, d => by
    rw [vars_mk, vars_mk]
    by_cases hk : k = 1
    · rw [if_pos hk, if_pos hk]; rfl
    · rw [if_neg hk, if_neg hk, show (if k = 2 then d + c + 1 else d + c) = (if k = 2 then d + 1 else d) + c from by split <;> omega]
      exact varsAll_from c l _
theorem varsAll_from (c : Nat) : ∀ (l : List Tm) (d : Nat), varsAll l (d + c) = (varsAll l d).map fun y => (y.1, y.2 + c)
  | [], _ => by simp [varsAll]
  | t :: r, d => by simp only [varsAll, List.map_append, vars_from c t d, varsAll_from c r d]
end

theorem free_lift {s : Tm} (ho : s.ok = true) (d : Nat) (x : Int) : FreeIn ((s.lift 0 d).vars d) x ↔ FreeIn (s.vars 0) x := by
  have h1 := vars_from d (s.lift 0 d) 0
  rw [Nat.zero_add] at h1
  have h2 := vars_lift 0 d s 0 ho
  rw [Nat.add_zero] at h2
  rw [h1, h2, List.map_map]
  constructor
  · rintro ⟨z, hz, h3, rfl⟩
    obtain ⟨y, hy, rfl⟩ := List.mem_map.1 hz
    simp only [Function.comp, upVar, Nat.zero_add] at h3 ⊢
    refine ⟨y, hy, ?_, ?_⟩
    · split at h3 <;> omega
    · split <;> split at h3 <;> omega
  · rintro ⟨y, hy, h3, rfl⟩
    refine ⟨_, List.mem_map.2 ⟨y, hy, rfl⟩, ?_, ?_⟩
    · simp only [Function.comp, upVar, Nat.zero_add]
      split <;> omega
    · simp only [Function.comp, upVar, Nat.zero_add]
      split <;> omega

mutual
theorem free_put (s : Tm) (hs : s.ok = true) : ∀ (t : Tm) (d : Nat), t.ok = true → ∀ x, FreeIn ((t.put d s).vars d) x ↔ (∃ z, FreeIn (t.vars d) z ∧ 0 < z ∧ x = z - 1) ∨ (FreeIn (t.vars d) 0 ∧ FreeIn (s.vars 0) x)
  | .mk k i T l, d, ho, x => by
    by_cases hk : k = 1
    · subst hk
      obtain rfl := var_nil ho
      rw [Tm.put, if_pos rfl, vars_mk, if_pos rfl]
      by_cases h1 : i = (d : Int)
      · rw [if_pos h1, free_lift hs]
        simp only [freeIn_one]
        constructor
        · intro h; exact .inr ⟨⟨by omega, by omega⟩, h⟩
        · rintro (⟨z, ⟨h2, rfl⟩, h3, _⟩ | ⟨_, h⟩)
          · omega
          · exact h
      · rw [if_neg h1]
        by_cases h2 : (d : Int) < i
        · rw [if_pos h2, vars_mk, if_pos rfl]
          simp only [freeIn_one]
          constructor
          · rintro ⟨h3, rfl⟩
            exact .inl ⟨i - d, ⟨by omega, rfl⟩, by omega, by omega⟩
          · rintro (⟨z, ⟨h3, rfl⟩, h4, rfl⟩ | ⟨⟨h3, h4⟩, _⟩)
            · exact ⟨by omega, by omega⟩
            · omega
        · rw [if_neg h2, vars_mk, if_pos rfl]
          simp only [freeIn_one]
          constructor
          · rintro ⟨h3, _⟩; omega
          · rintro (⟨z, ⟨h3, _⟩, _⟩ | ⟨⟨h3, _⟩, _⟩) <;> omega
    · rw [Tm.put, if_neg hk, vars_mk, if_neg hk, vars_mk, if_neg hk]
      exact free_putAll s hs l _ (ok_parts ho) x
theorem free_putAll (s : Tm) (hs : s.ok = true) : ∀ (l : List Tm) (d : Nat), okAllT l = true → ∀ x, FreeIn (varsAll (putAll l d s) d) x ↔ (∃ z, FreeIn (varsAll l d) z ∧ 0 < z ∧ x = z - 1) ∨ (FreeIn (varsAll l d) 0 ∧ FreeIn (s.vars 0) x)
  | [], _, _, x => by simp [putAll, varsAll, FreeIn]
  | t :: r, d, ho, x => by
    simp only [okAllT, Bool.and_eq_true] at ho
    simp only [putAll, varsAll, freeIn_append, free_put s hs t d ho.1 x, free_putAll s hs r d ho.2 x]
    constructor
    · rintro ((⟨z, h, h'⟩ | ⟨h, h'⟩) | (⟨z, h, h'⟩ | ⟨h, h'⟩))
      · exact .inl ⟨z, .inl h, h'⟩
      · exact .inr ⟨.inl h, h'⟩
      · exact .inl ⟨z, .inr h, h'⟩
      · exact .inr ⟨.inr h, h'⟩
    · rintro (⟨z, h | h, h'⟩ | ⟨h | h, h'⟩)
      · exact .inl (.inl ⟨z, h, h'⟩)
      · exact .inr (.inl ⟨z, h, h'⟩)
      · exact .inl (.inr ⟨h, h'⟩)
      · exact .inr (.inr ⟨h, h'⟩)
end
end Go.Proofs.YtnodebcbnfkioaaDoor
namespace Go.Proofs.YtnodebcbnfkioaaDoor
open Go.RowKit

/-- Where a free variable goes. -/
def upFrom (m n : Nat) (v : Int) : Int := if (m : Int) ≤ v then v + n else v
theorem uses_lift {t : Tm} {L : List Int} {m n : Nat} (ho : t.ok = true) (h : UsesOf t L) : UsesOf (t.lift m n) (L.map (upFrom m n)) := by
  obtain ⟨h1, h2⟩ := h
  refine ⟨List.pairwise_map.2 (h1.imp fun {a b} hab => by unfold upFrom; split <;> split <;> omega), fun x => ?_⟩
  have hv := vars_lift m n t 0 ho
  rw [Nat.add_zero] at hv
  rw [hv, List.mem_map]
  constructor
  · rintro ⟨v, hv, rfl⟩
    obtain ⟨y, hy, h3, rfl⟩ := (h2 v).1 hv
    refine ⟨_, List.mem_map.2 ⟨y, hy, rfl⟩, ?_, ?_⟩
    · unfold upVar; simp only; split <;> omega
    · unfold upFrom upVar; simp only; split <;> split <;> omega
  · rintro ⟨z, hz, h3, rfl⟩
    obtain ⟨y, hy, rfl⟩ := List.mem_map.1 hz
    unfold upVar at h3 ⊢
    simp only at h3 ⊢
    have h4 : (y.2 : Int) ≤ y.1 := by split at h3 <;> omega
    refine ⟨y.1 - y.2, (h2 _).2 ⟨y, hy, h4, rfl⟩, ?_⟩
    unfold upFrom
    split <;> split <;> omega

mutual
theorem lift_lowL {n : Int} : ∀ (t : Tm) (m b : Nat), t.low n = true → (t.lift m b).low (n + b) = true
  | .mk k i T l, m, b, h => by
    rw [Tm.low, Bool.and_eq_true] at h
    have h1 := of_decide_eq_true h.1
    rw [Tm.lift, Tm.low, Bool.and_eq_true]
    exact ⟨decide_eq_true (by split <;> omega), liftAll_lowL l _ b h.2⟩
theorem liftAll_lowL {n : Int} : ∀ (l : List Tm) (m b : Nat), lowAll l n = true → lowAll (liftAll l m b) (n + b) = true
  | [], _, _, _ => by simp [liftAll, lowAll]
  | t :: r, m, b, h => by
    simp only [lowAll, Bool.and_eq_true] at h
    simp only [liftAll, lowAll, Bool.and_eq_true]
    exact ⟨lift_lowL t m b h.1, liftAll_lowL r m b h.2⟩
end
/-- A small term. -/
def Few1 (t : Tm) : Prop := t.err = 0 ∧ t.bulk ≤ 12000 ∧ t.low 100000 = true
theorem lift_few {t : Tm} {m n : Nat} (h : Few1 t) (hl : t.low 1000 = true) (hn : n ≤ 100) : Few1 (t.lift m n) := by
  obtain ⟨h1, h2, _⟩ := h
  have h3 := errT_zero.1 h1
  exact ⟨errT_zero.2 ⟨lift_ok t m n h3.1, by rw [lift_size]; exact h3.2⟩, by rw [lift_bulk]; exact h2, low_mono (by omega) _ (lift_lowL t m n hl)⟩
/-- Lowering undoes lifting by one. -/
theorem lower_is {t X : Tm} {v : Value} {m : Nat} {S : Nat → Prop} {w : World} (hX : X.ok = true) (ht : X.lift m 1 = t) (hm : m ≤ 4096) (h : Few1 t) (htab : Tab w) (hS : ∀ b, S b → b < w.heap.size) (hT : IsTm S w t v) :
    Calls Tryd.prog 170 #[v, .int .i64 m] w fun e w' => ∃ (B A : Option Addr) (d c : Nat), e = .returned (.tuple #[.agg #[.int .i64 X.kind, .int .i64 X.index, .int .i64 X.type.kind, .slice B X.type.args.length d, .slice A X.args.length c], .int .i64 0]) ∧
      IsTm (fun b => (S b ∨ w.heap.size ≤ b) ∧ b < w'.heap.size) w' X (.agg #[.int .i64 X.kind, .int .i64 X.index, .int .i64 X.type.kind, .slice B X.type.args.length d, .slice A X.args.length c]) ∧ Below w.heap.size w w' := by
  have ho : t.occ m = 0 := by rw [← ht]; have := lift_occ X m 0 0 hX (Nat.le_refl _); simpa using this
  have hp : t.put m noTm = X := by rw [← ht]; have := lift_put_lo noTm X m 0 0 hX (Nat.le_refl _); rw [lift_zero] at this; simpa using this
  have hl := lowerTop_any t v m S w (by have := h.2.1; omega) h.1 (low_mono (by omega) _ h.2.2) hm ho htab hS hT
  rw [hp] at hl
  refine hl.mono ?_
  rintro e w' ⟨v', rfl, ht, hb⟩
  obtain ⟨B, d, A, c, rfl, _⟩ := IsTm.form ht
  exact ⟨B, A, d, c, rfl, ht, hb⟩
/-- A slice of ints of the call's own: its form and its cells. -/
theorem row_form {w : World} {base : Nat} {e : TypeId} {v : Value} {L : List Int} (h : w.ownsRow base e 1 v L.length (L.map encZ)) :
    ∃ (A : Option Addr) (cap : Nat), v = .slice A L.length cap ∧ L.length ≤ 9223372036854775807 ∧ ∀ i (hi : i < L.length), ∃ a : Addr, A = some a ∧ base ≤ a.block ∧ a.block < w.heap.size ∧ w.cell? (a.add i) = some (.int .i64 L[i]) := by
  obtain ⟨_, ⟨rfl, h0⟩ | ⟨g, cap, cur, rfl, hg, hb, hc, hm', hs, ht⟩⟩ := h
  · exact ⟨none, 0, by rw [h0], by omega, fun i hi => by omega⟩
  · have hm : maxLen = 9223372036854775807 := by decide
    refine ⟨some ⟨g, 0, none⟩, cap, rfl, by omega, fun i hi => ⟨_, rfl, hg, ?_, ?_⟩⟩
    · exact (Array.getElem?_eq_some_iff.1 hb).1
    · have h1 : cur.toList[i]? = some (.int .i64 L[i]) := by
        have h2 : (cur.toList.take (L.length * 1))[i]? = some (encZ L[i]) := by rw [ht]; simp [hi]
        rw [List.getElem?_take] at h2
        simpa [hi, encZ] using h2
      have h2 : (⟨g, 0, none⟩ : Addr).add i = ⟨g, i, none⟩ := by unfold Addr.add; split <;> simp_all
      rw [h2, cell_of_row w g i cur e (0, 0) hb, ← Array.getElem?_toList, h1]
theorem uses_small {t : Tm} {L : List Int} {b : Nat} (hl : t.low b = true) (h : UsesOf t L) : ∀ x ∈ L, 0 ≤ x ∧ x ≤ b := by
  intro x hx
  obtain ⟨y, hy, h1, rfl⟩ := (h.2 x).1 hx
  have := vars_low t 0 hl y hy
  omega
end Go.Proofs.YtnodebcbnfkioaaDoor
