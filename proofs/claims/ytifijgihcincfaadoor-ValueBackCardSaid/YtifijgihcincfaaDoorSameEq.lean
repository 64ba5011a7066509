/- Same on types is equality. -/
import Derived.Test.YtifijgihcincfaaDoorTypeEqual
namespace Go.Proofs.YtifijgihcincfaaDoor
open Go.RowKit

theorem alike_eq : ∀ (n : Nat) (S T : Ty), S.nodes ≤ n → (S.order2 T).all alike = true → S = T := by
  intro n
  induction n with
  | zero => intro S T h; have := nodes_pos S; omega
  | succ n ih =>
    rintro ⟨k, l⟩ ⟨k', m⟩ hn h
    rw [order2_eq, List.all_cons, Bool.and_eq_true] at h
    have h1 := h.1
    simp only [alike, Ty.kind, Ty.args, Bool.and_eq_true, beq_iff_eq] at h1
    obtain ⟨rfl, hlen⟩ := h1
    have h2 := h.2
    simp only [Ty.args] at h2
    simp only [Ty.nodes] at hn
    congr 1
    clear h
    induction l generalizing m with
    | nil => cases m with
      | nil => rfl
      | cons b s => simp at hlen
    | cons a r ihl =>
      cases m with
      | nil => simp at hlen
      | cons b s =>
        simp only [List.zip_cons_cons, orderSt, List.all_append, Bool.and_eq_true] at h2
        simp only [nodesAll] at hn
        rw [ih a b (by omega) h2.2, ihl s (by omega) (by simpa using hlen) h2.1]
theorem same_eq {S T : Ty} (h : S.same T = true) : S = T := alike_eq S.nodes S T (Nat.le_refl _) h
theorem sameAll_eq : ∀ {l m : List Ty}, sameAll l m = true → l = m := by
  intro l m h
  induction l generalizing m with
  | nil => cases m with
    | nil => rfl
    | cons b s => simp [sameAll] at h
  | cons a r ih =>
    cases m with
    | nil => simp [sameAll] at h
    | cons b s =>
      simp only [sameAll, Bool.and_eq_true] at h
      rw [same_eq h.1, ih h.2]
end Go.Proofs.YtifijgihcincfaaDoor
