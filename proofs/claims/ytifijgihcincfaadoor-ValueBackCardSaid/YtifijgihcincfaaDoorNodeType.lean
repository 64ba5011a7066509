/- The type of a node. -/
import Derived.Test.YtifijgihcincfaaDoorTypeEqual
import Derived.Deep.AppendLies
namespace Go.Proofs.YtifijgihcincfaaDoor
open Go.RowKit

def nodeTy (k : Int) (T : Ty) (ps : List Ty) : Except Int Ty :=
  if k = 2 then match ps with
    | [b] => if (tyFun T b).nodes ≤ 64 then .ok (tyFun T b) else .error 4
    | _ => .error 7
  else if k = 3 then match ps with
    | [.mk 4 [s, u], a] => if s.same a = true then .ok u else .error 7
    | _ => .error 7
  else if k = 10 then if (Ty.mk 3 ps).nodes ≤ 64 then .ok (.mk 3 ps) else .error 4
  else if k = 11 then match ps with
    | [.mk 3 [a, _]] => .ok a
    | _ => .error 7
  else if k = 12 then match ps with
    | [.mk 3 [_, b]] => .ok b
    | _ => .error 7
  else if sameAll ps (argTys k T) = true then .ok (ownTy k T) else .error 7

/-- What a call that returns a type or an error comes to. -/
def GivesTy (S : Nat → Prop) (r : Except Int Ty) (w : World) (e : Ending) (w' : World) : Prop :=
  Below w.heap.size w w' ∧ match r with
    | .ok U => ∃ v, e = .returned (.tuple #[v, .int .i64 0]) ∧ IsTy (fun b => (S b ∨ w.heap.size ≤ b) ∧ b < w'.heap.size) w' U v
    | .error c => e = .returned (.tuple #[.agg #[.int .i64 0, .slice none 0 0], .int .i64 c])

theorem box52_facts (w : World) (x0 x1 x2 x3 x4 : Value) : ∃ W, W = (w.alloc (Obj.cells #[x0, x1, x2, x3, x4] 34)).alloc (Obj.cells #[.int .i64 0, .slice none 0 0] 30) ∧
    Below w.heap.size w W ∧ W.heap.size = w.heap.size + 2 ∧ Blk W w.heap.size 34 #[x0, x1, x2, x3, x4] ∧ Blk W (w.heap.size + 1) 30 #[.int .i64 0, .slice none 0 0] := by
  obtain ⟨b1, z1, k1⟩ := new_blk (Below.refl w.heap.size w) (Nat.le_refl _) #[x0, x1, x2, x3, x4] 34
  generalize w.alloc (Obj.cells #[x0, x1, x2, x3, x4] 34) = W1 at b1 z1 k1 ⊢
  obtain ⟨b2, z2, k2⟩ := new_blk b1 b1.size #[.int .i64 0, .slice none 0 0] 30
  have k1 := k1.alloc (Obj.cells #[.int .i64 0, .slice none 0 0] 30)
  rw [z1] at k2
  exact ⟨_, rfl, b2, by omega, k1, k2⟩

/-- The result is stored, and the call ends: a type. -/
theorem gives_ok {S : Nat → Prop} {w w3 : World} {U : Ty} {x y : Value} {r : Except Int Ty} (hr : r = .ok U) (hS : ∀ b, S b → b < w.heap.size) (hb : Below w.heap.size w w3) (_hz : w.heap.size + 2 ≤ w3.heap.size)
    (hU : IsTy (fun b => (S b ∨ w.heap.size + 2 ≤ b) ∧ b < w3.heap.size) w3 U (.agg #[x, y])) :
    GivesTy S r w (.returned (.tuple #[.agg #[x, y], .int .i64 0])) ((w3.setCell ⟨w.heap.size + 1, 0, none⟩ x).setCell ⟨w.heap.size + 1, 1, none⟩ y) := by
  have hg := only_set2 w3 (w.heap.size + 1) x y
  subst hr
  refine ⟨hb.grown hg hb.size (fun k e => by cases e; omega), _, rfl, IsTy.keep (fun b h => ⟨h.1.imp id (fun h => by omega), Nat.lt_of_lt_of_le h.2 hg.size⟩) (fun p hp => World.cell?_of_block (hg.block p.block hp.2 (fun e => ?_))) _ hU⟩
  have e' : p.block = w.heap.size + 1 := by simpa using e
  rcases hp.1 with h | h
  · have := hS _ h; omega
  · omega
theorem gives_err {S : Nat → Prop} {w w3 : World} {c : Int} {x y : Value} {r : Except Int Ty} (hr : r = .error c) (hb : Below w.heap.size w w3) :
    GivesTy S r w (.returned (.tuple #[.agg #[.int .i64 0, .slice none 0 0], .int .i64 c])) ((w3.setCell ⟨w.heap.size + 1, 0, none⟩ x).setCell ⟨w.heap.size + 1, 1, none⟩ y) := by
  have hg := only_set2 w3 (w.heap.size + 1) x y
  subst hr
  exact ⟨hb.grown hg hb.size (fun k e => by cases e; omega), rfl⟩

theorem argTys_len (k : Int) (T : Ty) : (argTys k T).length ≤ 400000 := by
  unfold argTys
  by_cases h5 : k = 5
  · simp [h5]
  by_cases h8 : k = 8
  · simp [h8]
  by_cases h6 : k = 6
  · simp [h6]
  by_cases h9 : k = 9
  · simp [h9]
  · simp [h5, h8, h6, h9]
theorem box3_facts (w : World) (o1 : Obj) (cs : Array Value) (o3 : Obj) : Below w.heap.size w (((w.alloc o1).alloc (.cells cs 30)).alloc o3) ∧ (((w.alloc o1).alloc (.cells cs 30)).alloc o3).heap.size = w.heap.size + 3 ∧
    Blk (((w.alloc o1).alloc (.cells cs 30)).alloc o3) (w.heap.size + 1) 30 cs := by
  refine ⟨((below_box w o1).alloc (by simp) _).alloc (by simp; omega) _, by simp, ?_⟩
  have := (Blk.new (w.alloc o1) 30 cs).alloc o3
  simpa using this
theorem kind_mk (k : Int) (l : List Ty) : (Ty.mk k l).kind = k := rfl
theorem args_mk (k : Int) (l : List Ty) : (Ty.mk k l).args = l := rfl
theorem nodesAll_one (T : Ty) : nodesAll [T] = T.nodes := by simp [nodesAll]

theorem areIn_one {S : Nat → Prop} {W : World} {T : Ty} {x y : Value} (hS : ∀ b, S b → b < W.heap.size) (h : IsTy S W T (.agg #[x, y])) :
    AreIn (fun b => S b ∨ b = W.heap.size) (W.alloc (.cells #[x, y] 30)) [T] (.slice (some ⟨W.heap.size, 0, none⟩) 1 1) := by
  refine ⟨_, 1, rfl, fun _ => ⟨_, rfl, .inr rfl, ?_⟩⟩
  obtain ⟨h0, h1, _, _⟩ := (Blk.new W 30 #[x, y]).facts2
  unfold AreTys
  refine ⟨⟨x, y, h0, h1, IsTy.keep (fun b hb => .inl hb) (fun p hp => World.cell?_alloc_lt _ _ _ (hS _ hp)) _ h⟩, ?_⟩
  unfold AreTys
  trivial

end Go.Proofs.YtifijgihcincfaaDoor
