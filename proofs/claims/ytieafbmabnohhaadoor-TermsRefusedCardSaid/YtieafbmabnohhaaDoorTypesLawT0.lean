/- Small lemmas of the laws on terms. -/
import Derived.Test.YtieafbmabnohhaaDoorSaneU
import Derived.Test.YtieafbmabnohhaaDoorMkTerm
namespace Go.Proofs.YtieafbmabnohhaaDoor
open Go.RowKit

theorem typeOf_made {G : List Ty} {t : Ty} {a p : Nat} {T : Tm} (h : Made G t a p T) (ha : a ≤ 4096) (hG : G.length ≤ 16) (hok : ∀ U ∈ G, U.ok = true ∧ U.nodes ≤ 3) : T.typeOf G = .ok t := by
  have hc : ctxErr G = 0 := by
    unfold ctxErr
    rw [if_neg (by omega)]
    clear h hG
    induction G with
    | nil => rfl
    | cons U r ih =>
      unfold errs
      have h0 := hok U (by simp)
      have e : U.err = 0 := err_zero.2 ⟨h0.1, by omega⟩
      rw [if_pos e]
      exact ih (fun V hV => hok V (by simp [hV]))
  unfold Tm.typeOf
  rw [if_pos hc, if_pos (errT_zero.2 ⟨h.ok, by have := h.size; omega⟩), h.typ]
theorem nodesAll_small {G : List Ty} (hok : ∀ U ∈ G, U.ok = true ∧ U.nodes ≤ 3) : nodesAll G ≤ 3 * G.length := by
  induction G with
  | nil => simp [nodesAll]
  | cons U r ih =>
    have h0 := (hok U (by simp)).2
    have := ih (fun V hV => hok V (by simp [hV]))
    simp only [nodesAll, List.length_cons]; omega
theorem Made.more {G : List Ty} {t : Ty} {a p : Nat} {T : Tm} (h : Made G t a p T) (L : List Ty) : Made (L ++ G) t a p T := { h with typ := typ_more L T G h.typ }
theorem type_three {S : Ty} (h : S.nodes + 1 ≤ 2 ^ (1 + 1)) : S.nodes ≤ 3 := by simp at h; omega
end Go.Proofs.YtieafbmabnohhaaDoor
