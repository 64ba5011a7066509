/- Small pieces that the walks of terms share. -/
import Derived.Test.YtifijgihcincfaaDoorMakeT
namespace Go.Proofs.YtifijgihcincfaaDoor
open Go.RowKit

theorem ret_boolD {a b : Bool} (h : a = b) : Ending.returned (.bool a) = .returned (.bool b) := by rw [h]

/-- A part of a node: its address, and its cells. -/
theorem sl_child {S : Nat → Prop} {w : World} {l : List Tm} {A : Option Addr} {n c : Nat} (h : TmR.Sl S w l (.slice A n c)) (j : Nat) (hj : j < l.length) : ∃ a B d A' c', A = some a ∧ S a.block ∧
    w.cell? (a.add (j * 5)) = some (.int .i64 l[j].kind) ∧ w.cell? ⟨(a.add (j * 5)).block, (a.add (j * 5)).off + 1, none⟩ = some (.int .i64 l[j].index) ∧
    w.cell? ⟨(a.add (j * 5)).block, (a.add (j * 5)).off + 2, none⟩ = some (.int .i64 l[j].type.kind) ∧ w.cell? ⟨(a.add (j * 5)).block, (a.add (j * 5)).off + 3, none⟩ = some (.slice B l[j].type.args.length d) ∧
    w.cell? ⟨(a.add (j * 5)).block, (a.add (j * 5)).off + 4, none⟩ = some (.slice A' l[j].args.length c') ∧
    IsTm S w l[j] (.agg #[.int .i64 l[j].kind, .int .i64 l[j].index, .int .i64 l[j].type.kind, .slice B l[j].type.args.length d, .slice A' l[j].args.length c']) := by
  obtain ⟨a, rfl, ha, hat⟩ := h.get j hj
  obtain ⟨B1, d1, A1, c1, q0, q1, q2, q3, q4, hx⟩ := at_tm hat
  exact ⟨a, B1, d1, A1, c1, rfl, ha, q0, q1, q2, q3, q4, hx⟩
theorem alloc2_facts (w : World) (c1 c2 : Array Value) (t1 t2 : TypeId) : ∃ W, W = (w.alloc (.cells c1 t1)).alloc (.cells c2 t2) ∧
    Below w.heap.size w W ∧ W.heap.size = w.heap.size + 2 ∧ Blk W w.heap.size t1 c1 ∧ Blk W (w.heap.size + 1) t2 c2 := by
  obtain ⟨b1, z1, k1⟩ := new_blk (Below.refl w.heap.size w) (Nat.le_refl _) c1 t1
  generalize w.alloc (.cells c1 t1) = W1 at b1 z1 k1 ⊢
  obtain ⟨b2, z2, k2⟩ := new_blk b1 b1.size c2 t2
  rw [z1] at k2
  exact ⟨_, rfl, b2, by omega, k1.alloc _, k2⟩
end Go.Proofs.YtifijgihcincfaaDoor
