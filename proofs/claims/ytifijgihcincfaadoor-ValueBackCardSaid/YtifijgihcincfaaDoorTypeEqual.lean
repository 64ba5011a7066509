/- Lists of types that are the same. -/
import Derived.Test.YtifijgihcincfaaDoorTypeArgs
namespace Go.Proofs.YtifijgihcincfaaDoor
open Go.RowKit

def sameAll : List Ty → List Ty → Bool
  | [], [] => true
  | a :: r, b :: s => a.same b && sameAll r s
  | _, _ => false
theorem sameAll_len : ∀ {l m : List Ty}, sameAll l m = true → l.length = m.length
  | [], [], _ => rfl
  | a :: r, b :: s, h => by simp only [sameAll, Bool.and_eq_true] at h; simp [sameAll_len h.2]
  | [], _ :: _, h => by simp [sameAll] at h
  | _ :: _, [], h => by simp [sameAll] at h
theorem sameAll_at : ∀ {l m : List Ty} (i : Nat) (hi : i < l.length) (hm : i < m.length), sameAll l m = true → l[i].same m[i] = true
  | a :: r, b :: s, 0, _, _, h => by simp only [sameAll, Bool.and_eq_true] at h; exact h.1
  | a :: r, b :: s, i + 1, hi, hm, h => by simp only [sameAll, Bool.and_eq_true] at h; exact sameAll_at i (by simpa using hi) (by simpa using hm) h.2
theorem sameAll_of : ∀ {l m : List Ty}, l.length = m.length → (∀ i (hi : i < l.length) (hm : i < m.length), l[i].same m[i] = true) → sameAll l m = true
  | [], [], _, _ => rfl
  | a :: r, b :: s, hl, h => by
    simp only [sameAll, Bool.and_eq_true]
    exact ⟨h 0 (by simp) (by simp), sameAll_of (by simpa using hl) (fun i hi hm => h (i + 1) (by simpa using hi) (by simpa using hm))⟩
  | [], _ :: _, hl, _ => by simp at hl
  | _ :: _, [], hl, _ => by simp at hl

theorem same_is {S T : Ty} {u v : Value} {w : World} (b : Bool) (hb : S.same T = b) (hsz : S.nodes ≤ 400000) (hS : IsTy (· < w.heap.size) w S u) (hT : IsTy (· < w.heap.size) w T v) :
    Calls Tryd.prog 146 #[u, v] w fun e w' => e = .returned (.bool b) ∧ Below w.heap.size w w' := by
  subst hb
  exact same_any S T u v w hsz hS hT

end Go.Proofs.YtifijgihcincfaaDoor
