/- What SubstLifts' law needs: Lift's contract with its terms named, the free variables of a lifted term. -/
import Derived.Test.YtdhidofmojaheaaDoorLower
namespace Go.Proofs.YtdhidofmojaheaaDoor
open Go.RowKit

/-- Where a variable goes. -/
def upVar (m n : Nat) (x : Int × Nat) : Int × Nat := (if ((m + x.2 : Nat) : Int) ≤ x.1 then x.1 + (n : Int) else x.1, x.2)
mutual
theorem vars_lift (m n : Nat) : ∀ (t : Tm) (d : Nat), t.ok = true → (t.lift (m + d) n).vars d = (t.vars d).map (upVar m n)
  | .mk k i T l, d, ho => by
    by_cases hk : k = 1
    · subst hk
      obtain rfl := var_nil ho
      rw [lift_var, vars_mk, if_pos rfl, vars_mk, if_pos rfl]
      rfl
    · rw [lift_node hk, vars_mk, if_neg hk, vars_mk, if_neg hk, show (if k = 2 then m + d + 1 else m + d) = m + (if k = 2 then d + 1 else d) from by split <;> omega]
      exact varsAll_lift m n l _ (ok_parts ho)
theorem varsAll_lift (m n : Nat) : ∀ (l : List Tm) (d : Nat), okAllT l = true → varsAll (liftAll l (m + d) n) d = (varsAll l d).map (upVar m n)
  | [], _, _ => by simp [liftAll, varsAll]
  | t :: r, d, ho => by
    simp only [okAllT, Bool.and_eq_true] at ho
    simp only [liftAll, varsAll, List.map_append, vars_lift m n t d ho.1, varsAll_lift m n r d ho.2]
end
/-- Where a free variable goes. -/
def upFrom (m n : Nat) (v : Int) : Int := if (m : Int) ≤ v then v + n else v
theorem uses_lift {t : Tm} {L : List Int} {m n : Nat} (ho : t.ok = true) (h : UsesOf t L) : UsesOf (t.lift m n) (L.map (upFrom m n)) := by
  obtain ⟨h1, h2⟩ := h
  refine ⟨List.pairwise_map.2 (h1.imp fun {a b} hab => by unfold upFrom; split <;> split <;> omega), fun x => ?_⟩
  have hv := vars_lift m n t 0 ho
  rw [Nat.add_zero] at hv
  rw [hv, List.mem_map]
  constructor
  · rintro ⟨v, hv, rfl⟩
    obtain ⟨y, hy, h3, rfl⟩ := (h2 v).1 hv
    refine ⟨_, List.mem_map.2 ⟨y, hy, rfl⟩, ?_, ?_⟩
    · unfold upVar; simp only; split <;> omega
    · unfold upFrom upVar; simp only; split <;> split <;> omega
  · rintro ⟨z, hz, h3, rfl⟩
    obtain ⟨y, hy, rfl⟩ := List.mem_map.1 hz
    unfold upVar at h3 ⊢
    simp only at h3 ⊢
    have h4 : (y.2 : Int) ≤ y.1 := by split at h3 <;> omega
    refine ⟨y.1 - y.2, (h2 _).2 ⟨y, hy, h4, rfl⟩, ?_⟩
    unfold upFrom
    split <;> split <;> omega

mutual
theorem lift_lowL {n : Int} : ∀ (t : Tm) (m b : Nat), t.low n = true → (t.lift m b).low (n + b) = true
  | .mk k i T l, m, b, h => by
    rw [Tm.low, Bool.and_eq_true] at h
    have h1 := of_decide_eq_true h.1
    rw [Tm.lift, Tm.low, Bool.and_eq_true]
    exact ⟨decide_eq_true (by split <;> omega), liftAll_lowL l _ b h.2⟩
theorem liftAll_lowL {n : Int} : ∀ (l : List Tm) (m b : Nat), lowAll l n = true → lowAll (liftAll l m b) (n + b) = true
  | [], _, _, _ => by simp [liftAll, lowAll]
  | t :: r, m, b, h => by
    simp only [lowAll, Bool.and_eq_true] at h
    simp only [liftAll, lowAll, Bool.and_eq_true]
    exact ⟨lift_lowL t m b h.1, liftAll_lowL r m b h.2⟩
end
/-- A small term. -/
def Few1 (t : Tm) : Prop := t.err = 0 ∧ t.bulk ≤ 12000 ∧ t.low 100000 = true
theorem lift_few {t : Tm} {m n : Nat} (h : Few1 t) (hl : t.low 1000 = true) (hn : n ≤ 100) : Few1 (t.lift m n) := by
  obtain ⟨h1, h2, _⟩ := h
  have h3 := errT_zero.1 h1
  exact ⟨errT_zero.2 ⟨lift_ok t m n h3.1, by rw [lift_size]; exact h3.2⟩, by rw [lift_bulk]; exact h2, low_mono (by omega) _ (lift_lowL t m n hl)⟩
theorem lift_is {t U : Tm} {v : Value} {m n : Nat} {a k : Int} {S : Nat → Prop} {w : World} (hU : t.lift m n = U) (ha : (m : Int) = a) (hk : (n : Int) = k) (hm : m ≤ 4096) (hn : n ≤ 4096) (h : Few1 t) (htab : Tab w) (hS : ∀ b, S b → b < w.heap.size) (hT : IsTm S w t v) :
    Calls Tryd.prog 27 #[v, .int .i64 a, .int .i64 k] w fun e w' => ∃ (B A : Option Addr) (d c : Nat), e = .returned (.tuple #[.agg #[.int .i64 U.kind, .int .i64 U.index, .int .i64 U.type.kind, .slice B U.type.args.length d, .slice A U.args.length c], .int .i64 0]) ∧
      IsTm (fun b => (S b ∨ w.heap.size ≤ b) ∧ b < w'.heap.size) w' U (.agg #[.int .i64 U.kind, .int .i64 U.index, .int .i64 U.type.kind, .slice B U.type.args.length d, .slice A U.args.length c]) ∧ Below w.heap.size w w' := by
  subst hU ha hk
  refine (liftTop_any t v m n S w (by have := h.2.1; omega) h.1 (low_mono (by omega) _ h.2.2) hm hn htab hS hT).mono ?_
  rintro e w' ⟨v', rfl, ht, hb⟩
  obtain ⟨B, d, A, c, rfl, _⟩ := IsTm.form ht
  exact ⟨B, A, d, c, rfl, ht, hb⟩
/-- Lowering undoes lifting by one. -/
theorem lower_is {t X : Tm} {v : Value} {m : Nat} {S : Nat → Prop} {w : World} (hX : X.ok = true) (ht : X.lift m 1 = t) (hm : m ≤ 4096) (h : Few1 t) (htab : Tab w) (hS : ∀ b, S b → b < w.heap.size) (hT : IsTm S w t v) :
    Calls Tryd.prog 28 #[v, .int .i64 m] w fun e w' => ∃ (B A : Option Addr) (d c : Nat), e = .returned (.tuple #[.agg #[.int .i64 X.kind, .int .i64 X.index, .int .i64 X.type.kind, .slice B X.type.args.length d, .slice A X.args.length c], .int .i64 0]) ∧
      IsTm (fun b => (S b ∨ w.heap.size ≤ b) ∧ b < w'.heap.size) w' X (.agg #[.int .i64 X.kind, .int .i64 X.index, .int .i64 X.type.kind, .slice B X.type.args.length d, .slice A X.args.length c]) ∧ Below w.heap.size w w' := by
  have ho : t.occ m = 0 := by rw [← ht]; have := lift_occ X m 0 0 hX (Nat.le_refl _); simpa using this
  have hp : t.put m noTm = X := by rw [← ht]; have := lift_put_lo noTm X m 0 0 hX (Nat.le_refl _); rw [lift_zero] at this; simpa using this
  have hl := lowerTop_any t v m S w (by have := h.2.1; omega) h.1 (low_mono (by omega) _ h.2.2) hm ho htab hS hT
  rw [hp] at hl
  refine hl.mono ?_
  rintro e w' ⟨v', rfl, ht, hb⟩
  obtain ⟨B, d, A, c, rfl, _⟩ := IsTm.form ht
  exact ⟨B, A, d, c, rfl, ht, hb⟩
/-- A slice of ints of the call's own: its form and its cells. -/
theorem row_form {w : World} {base : Nat} {e : TypeId} {v : Value} {L : List Int} (h : w.ownsRow base e 1 v L.length (L.map encZ)) :
    ∃ (A : Option Addr) (cap : Nat), v = .slice A L.length cap ∧ L.length ≤ 9223372036854775807 ∧ ∀ i (hi : i < L.length), ∃ a : Addr, A = some a ∧ base ≤ a.block ∧ a.block < w.heap.size ∧ w.cell? (a.add i) = some (.int .i64 L[i]) := by
  obtain ⟨_, ⟨rfl, h0⟩ | ⟨g, cap, cur, rfl, hg, hb, hc, hm', hs, ht⟩⟩ := h
  · exact ⟨none, 0, by rw [h0], by omega, fun i hi => by omega⟩
  · have hm : maxLen = 9223372036854775807 := by decide
    refine ⟨some ⟨g, 0, none⟩, cap, rfl, by omega, fun i hi => ⟨_, rfl, hg, ?_, ?_⟩⟩
    · exact (Array.getElem?_eq_some_iff.1 hb).1
    · have h1 : cur.toList[i]? = some (.int .i64 L[i]) := by
        have h2 : (cur.toList.take (L.length * 1))[i]? = some (encZ L[i]) := by rw [ht]; simp [hi]
        rw [List.getElem?_take] at h2
        simpa [hi, encZ] using h2
      have h2 : (⟨g, 0, none⟩ : Addr).add i = ⟨g, i, none⟩ := by unfold Addr.add; split <;> simp_all
      rw [h2, cell_of_row w g i cur e (0, 0) hb, ← Array.getElem?_toList, h1]
theorem uses_small {t : Tm} {L : List Int} {b : Nat} (hl : t.low b = true) (h : UsesOf t L) : ∀ x ∈ L, 0 ≤ x ∧ x ≤ b := by
  intro x hx
  obtain ⟨y, hy, h1, rfl⟩ := (h.2 x).1 hx
  have := vars_low t 0 hl y hy
  omega
end Go.Proofs.YtdhidofmojaheaaDoor
