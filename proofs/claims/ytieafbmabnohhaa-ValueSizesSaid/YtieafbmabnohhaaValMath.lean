/- The term of a plain value, its size, and the values that are made. -/
import Derived.Test.YtieafbmabnohhaaVal
import Derived.Test.YtieafbmabnohhaaNumTm
import Derived.Test.YtieafbmabnohhaaSizeDef
namespace Go.Proofs.Ytieafbmabnohhaa
open Go.RowKit

def listTm : List Int → Tm
  | [] => .mk 7 0 .zero []
  | x :: r => .mk 8 0 .zero [numTm x.toNat, listTm r]
mutual
def Va.term : Va → Tm
  | .mk k n m l => if k = 1 then numTm n.toNat else if k = 2 then listTm m else if k = 3 then .mk 10 0 .zero (termsV l) else .mk 13 0 .zero []
def termsV : List Va → List Tm
  | [] => []
  | t :: r => t.term :: termsV r
end
/-- The sum of a list's numbers, each with two nodes more. -/
def intsN : List Int → Int
  | [] => 0
  | x :: r => 2 + min x 4096 + intsN r
mutual
/-- What the program counts. -/
def Va.weight : Va → Int
  | .mk _ n m l => 1 + min n 4096 + intsN m + weightAll l
def weightAll : List Va → Int
  | [] => 0
  | t :: r => t.weight + weightAll r
end
theorem termsV_length : ∀ l : List Va, (termsV l).length = l.length
  | [] => rfl
  | t :: r => by simp [termsV, termsV_length r]
theorem intsN_append : ∀ (l r : List Int), intsN (l ++ r) = intsN l + intsN r
  | [], r => by simp [intsN]
  | t :: l, r => by simp only [List.cons_append, intsN, intsN_append l r]; omega
theorem weightAll_append : ∀ (l r : List Va), weightAll (l ++ r) = weightAll l + weightAll r
  | [], r => by simp [weightAll]
  | t :: l, r => by simp only [List.cons_append, weightAll, weightAll_append l r]; omega

theorem numTm_size : ∀ n : Nat, (numTm n).size = n + 1
  | 0 => by simp [numTm, Tm.size, sizeAllT]
  | n + 1 => by simp only [numTm, Tm.size, sizeAllT, numTm_size n]; omega
theorem numTm_bulk : ∀ n : Nat, (numTm n).bulk = 2 * (n + 1)
  | 0 => by simp [numTm, Tm.bulk, bulkAll, Ty.zero, Ty.nodes, nodesAll]
  | n + 1 => by simp only [numTm, Tm.bulk, bulkAll, numTm_bulk n, Ty.zero, Ty.nodes, nodesAll]; omega
theorem listTm_size : ∀ l : List Int, (∀ x ∈ l, 0 ≤ x ∧ x ≤ 4096) → ((listTm l).size : Int) = 1 + intsN l
  | [], _ => by simp [listTm, Tm.size, sizeAllT, intsN]
  | x :: r, h => by
    have h0 := h x (by simp)
    have h1 := listTm_size r (fun y hy => h y (by simp [hy]))
    have h2 := numTm_size x.toNat
    simp only [listTm, Tm.size, sizeAllT, intsN, h2]
    omega

/-! The values that are made. -/
def num5 (V : Va) : Prop := ∃ n : Nat, n ≤ 4 ∧ V = .mk 1 n [] []
def list4 (V : Va) : Prop := ∃ m : List Int, m.length ≤ 3 ∧ (∀ x ∈ m, 0 ≤ x ∧ x ≤ 3) ∧ V = .mk 2 0 m []
def leafV (T : Ty) (V : Va) : Prop := (T = .mk 1 [] ∧ num5 V) ∨ (T = .mk 2 [] ∧ list4 V) ∨ (T = .mk 5 [] ∧ V = .mk 4 0 [] [])
def MadeV (T : Ty) (V : Va) : Prop := leafV T V ∨ ∃ A B a b, T = .mk 3 [A, B] ∧ leafV A a ∧ leafV B b ∧ V = .mk 3 0 [] [a, b]

theorem intsN_bound : ∀ m : List Int, (∀ x ∈ m, 0 ≤ x ∧ x ≤ 3) → 0 ≤ intsN m ∧ intsN m ≤ 5 * m.length
  | [], _ => by simp [intsN]
  | x :: r, h => by
    have h0 := h x (by simp)
    have h1 := intsN_bound r (fun y hy => h y (by simp [hy]))
    simp only [intsN, List.length_cons]
    omega
/-- What is known of a made value. -/
structure SmallV (V : Va) (k : Nat) : Prop where
  ok : V.ok = true
  nodes : V.nodes ≤ k
  bulk : V.bulk ≤ 4 * k
  pos : 1 ≤ V.weight
  weight : V.weight ≤ 16 * k
  size : (V.term.size : Int) = V.weight
theorem leafV_small {T : Ty} {V : Va} (h : leafV T V) : SmallV V 1 := by
  rcases h with ⟨_, n, hn, rfl⟩ | ⟨_, m, hl, hm, rfl⟩ | ⟨_, rfl⟩
  · refine ⟨by simp [Va.ok, okAllV, Va.formed], by simp [Va.nodes, nodesAllV], by simp [Va.bulk, bulkAllV], ?_, ?_, ?_⟩
    · simp only [Va.weight, intsN, weightAll]; omega
    · simp only [Va.weight, intsN, weightAll]; omega
    · simp only [Va.weight, intsN, weightAll, Va.term, if_pos, numTm_size, Int.toNat_natCast]; omega
  · have h1 := intsN_bound m hm
    have h2 := listTm_size m (fun x hx => by have := hm x hx; omega)
    refine ⟨?_, by simp [Va.nodes, nodesAllV], by simp only [Va.bulk, bulkAllV]; omega, ?_, ?_, ?_⟩
    · have h3 : (m.all fun x => decide (0 ≤ x)) = true := by rw [List.all_eq_true]; intro x hx; simpa using (hm x hx).1
      simp [Va.ok, okAllV, Va.formed, h3]
    · simp only [Va.weight, weightAll]; omega
    · simp only [Va.weight, weightAll]; omega
    · rw [show (Va.mk 2 0 m []).term = listTm m from by simp [Va.term]]
      rw [h2]
      simp only [Va.weight, weightAll]; omega
  · refine ⟨by simp [Va.ok, okAllV, Va.formed], by simp [Va.nodes, nodesAllV], by simp [Va.bulk, bulkAllV], ?_, ?_, ?_⟩
    · simp only [Va.weight, intsN, weightAll]; omega
    · simp only [Va.weight, intsN, weightAll]; omega
    · rw [show (Va.mk 4 0 [] []).term = .mk 13 0 .zero [] from by simp [Va.term]]
      simp only [Va.weight, intsN, weightAll, Tm.size, sizeAllT]; omega
theorem madeV_small {T : Ty} {V : Va} (h : MadeV T V) : SmallV V 3 := by
  rcases h with h | ⟨A, B, a, b, _, ha, hb, rfl⟩
  · obtain ⟨h1, h2, h3, h4, h5, h6⟩ := leafV_small h
    exact ⟨h1, by omega, by omega, h4, by omega, h6⟩
  · obtain ⟨a1, a2, a3, a4, a5, a6⟩ := leafV_small ha
    obtain ⟨b1, b2, b3, b4, b5, b6⟩ := leafV_small hb
    refine ⟨by simp [Va.ok, okAllV, a1, b1, Va.formed], by simp only [Va.nodes, nodesAllV]; omega, by simp only [Va.bulk, bulkAllV, List.length_nil]; omega, ?_, ?_, ?_⟩
    · simp only [Va.weight, weightAll, intsN]; omega
    · simp only [Va.weight, weightAll, intsN]; omega
    · rw [show (Va.mk 3 0 [] [a, b]).term = .mk 10 0 .zero [a.term, b.term] from by simp [Va.term, termsV]]
      simp only [Va.weight, weightAll, intsN, Tm.size, sizeAllT]
      omega
end Go.Proofs.Ytieafbmabnohhaa
