/- Forms of valid types, and levels. -/
import Derived.Test.YtifijgihcincfaaDoorMake
namespace Go.Proofs.YtifijgihcincfaaDoor
open Go.RowKit

def Ty.level : Ty → Nat
  | .mk k [a, b] => if k = 3 then max a.level b.level else if k = 4 then max (a.level + 1) b.level else 0
  | _ => 0

theorem IsTy.two {S : Nat → Prop} {w : World} {k : Int} {T U : Ty} {A : Option Addr} {c : Nat} (h : IsTy S w (.mk k [T, U]) (.agg #[.int .i64 k, .slice A 2 c])) :
    ∃ (a : Addr) (B : Option Addr) (d : Nat) (C : Option Addr) (e : Nat), A = some a ∧ S a.block ∧ w.cell? a = some (.int .i64 T.kind) ∧ w.cell? ⟨a.block, a.off + 1, none⟩ = some (.slice B T.args.length d) ∧
      w.cell? ⟨a.block, a.off + 2, none⟩ = some (.int .i64 U.kind) ∧ w.cell? ⟨a.block, a.off + 2 + 1, none⟩ = some (.slice C U.args.length e) ∧
      IsTy S w T (.agg #[.int .i64 T.kind, .slice B T.args.length d]) ∧ IsTy S w U (.agg #[.int .i64 U.kind, .slice C U.args.length e]) := by
  unfold IsTy at h
  obtain ⟨A', c', e, h⟩ := h
  simp at e
  obtain ⟨rfl, rfl⟩ := e
  obtain ⟨a, rfl, hs, h⟩ := h (by simp)
  obtain ⟨B, d, g0, g1, gT⟩ := h.get 0 (by simp)
  obtain ⟨C, e, k0, k1, kU⟩ := h.get 1 (by simp)
  simp only [Nat.zero_mul, add_zero', List.getElem_cons_zero] at g0 g1 gT
  simp only [Nat.one_mul, List.getElem_cons_succ, List.getElem_cons_zero] at k0 k1 kU
  exact ⟨a, B, d, C, e, rfl, hs, g0, g1, by simpa [Addr.add] using k0, by simpa [Addr.add] using k1, gT, kU⟩

/-- The forms of a valid type. -/
theorem Ty.ok_cases {T : Ty} (h : T.ok = true) : (∃ k, (k = 1 ∨ k = 2 ∨ k = 5) ∧ T = .mk k []) ∨ (∃ k A B, (k = 3 ∨ k = 4) ∧ T = .mk k [A, B] ∧ A.ok = true ∧ B.ok = true) := by
  obtain ⟨k, l⟩ := T
  match l, h with
  | [], h => exact .inl ⟨k, by simpa [Ty.ok, okAll, or_assoc] using h, rfl⟩
  | [A], h => simp [Ty.ok, okAll] at h
  | [A, B], h =>
    simp [Ty.ok, okAll] at h
    exact .inr ⟨k, A, B, h.1, rfl, h.2.1, h.2.2⟩
  | A :: B :: C :: r, h => simp [Ty.ok, okAll] at h

theorem level_leaf (k : Int) : (Ty.mk k []).level = 0 := by simp [Ty.level]
theorem level_pair (A B : Ty) : (Ty.mk 3 [A, B]).level = max A.level B.level := by simp [Ty.level]
theorem level_fun (A B : Ty) : (Ty.mk 4 [A, B]).level = max (A.level + 1) B.level := by simp [Ty.level]

theorem level_le (n : Nat) : ∀ T : Ty, T.nodes ≤ n → T.ok = true → T.level + 1 ≤ T.nodes := by
  induction n with
  | zero => intro T h; have := nodes_pos T; omega
  | succ n ih =>
    intro T h hok
    rcases Ty.ok_cases hok with ⟨k, _, rfl⟩ | ⟨k, A, B, hk, rfl, hA, hB⟩
    · simp [level_leaf, Ty.nodes]
    · simp only [Ty.nodes, nodesAll] at h ⊢
      have h1 := ih A (by omega) hA
      have h2 := ih B (by omega) hB
      rcases hk with rfl | rfl
      · rw [level_pair]; omega
      · rw [level_fun]; omega

theorem ret_num {a b : Int} (h : a = b) : Ending.returned (.int .i64 a) = .returned (.int .i64 b) := by rw [h]

theorem level_keeps {w W : World} {a : Addr} {x0 x1 x2 x3 x4 x5 : Value} (hbW : Below w.heap.size w W) (b0 : Blk W w.heap.size 30 #[x0, x1]) (ha : a.block < w.heap.size)
    (g0 : w.cell? a = some x2) (g1 : w.cell? ⟨a.block, a.off + 1, none⟩ = some x3) (k0 : w.cell? ⟨a.block, a.off + 2, none⟩ = some x4) (k1 : w.cell? ⟨a.block, a.off + 2 + 1, none⟩ = some x5) :
    ∀ w1, Below (w.heap.size + 1) W w1 → Below (w.heap.size + 1) W w1 ∧ w1.cell? ⟨w.heap.size, 0, none⟩ = some x0 ∧ w1.cell? ⟨w.heap.size, 1, none⟩ = some x1 ∧
      w1.cell? a = some x2 ∧ w1.cell? ⟨a.block, a.off + 1, none⟩ = some x3 ∧ w1.cell? ⟨a.block, a.off + 2, none⟩ = some x4 ∧ w1.cell? ⟨a.block, a.off + 2 + 1, none⟩ = some x5 := by
  intro w1 h
  obtain ⟨c0, c1, _, _⟩ := (b0.below h (Nat.lt_succ_self _)).facts2
  have k : ∀ p : Addr, p.block < w.heap.size → w1.cell? p = w.cell? p := fun p hp => (h.cell (by omega)).trans (hbW.cell hp)
  exact ⟨h, c0, c1, (k _ ha).trans g0, (k ⟨a.block, _, none⟩ ha).trans g1, (k ⟨a.block, _, none⟩ ha).trans k0, (k ⟨a.block, _, none⟩ ha).trans k1⟩

def LevelR (T : Ty) (w : World) (e : Ending) (w' : World) : Prop := e = .returned (.int .i64 (T.level : Int)) ∧ Below w.heap.size w w'

end Go.Proofs.YtifijgihcincfaaDoor
