/- The arguments of a function, and what is left. -/
import Derived.Test.YtifijgihcincfaaDoorCheck
import Derived.Deep.LoopGhost
namespace Go.Proofs.YtifijgihcincfaaDoor
open Go.RowKit Go.Shelf

/-- The arguments of a function, and what is left. -/
def Ty.argsOf : Ty → List Ty
  | .mk k [a, b] => if k = 4 then a :: b.argsOf else []
  | _ => []
def Ty.res : Ty → Ty
  | .mk k [a, b] => if k = 4 then b.res else .mk k [a, b]
  | t => t

theorem argsOf_fun (a b : Ty) : (Ty.mk 4 [a, b]).argsOf = a :: b.argsOf := by simp [Ty.argsOf]
theorem res_fun (a b : Ty) : (Ty.mk 4 [a, b]).res = b.res := by simp [Ty.res]
theorem argsOf_other {T : Ty} (hok : T.ok = true) (h : T.kind ≠ 4) : T.argsOf = [] ∧ T.res = T := by
  rcases Ty.ok_cases hok with ⟨k, _, rfl⟩ | ⟨k, A, B, hk, rfl, _, _⟩
  · simp [Ty.argsOf, Ty.res]
  · have : k ≠ 4 := h
    simp [Ty.argsOf, Ty.res, this]

def ResultR (T : Ty) (w : World) (e : Ending) (w' : World) : Prop :=
  Below w.heap.size w w' ∧ if T.err = 0 then ∃ s v, e = .returned (.tuple #[s, v, .int .i64 0]) ∧ Row (· < w.heap.size) w.heap.size s T.argsOf w' ∧ IsTy (· < w.heap.size) w' T.res v
    else e = .returned (.tuple #[.slice none 0 0, .agg #[.int .i64 0, .slice none 0 0], .int .i64 T.err])

def ResultRel (w : World) (T : Ty) (k : Nat) (s : Value) (wr : World) : Prop :=
  ∃ U pre A c, Blk wr w.heap.size 30 #[.int .i64 U.kind, .slice A U.args.length c] ∧ IsTy (· < w.heap.size) wr U (.agg #[.int .i64 U.kind, .slice A U.args.length c]) ∧ U.ok = true ∧
    pre ++ U.argsOf = T.argsOf ∧ U.res = T.res ∧ Row (· < w.heap.size) (w.heap.size + 2) s pre wr ∧ U.nodes = k ∧ Below w.heap.size w wr ∧ Blk wr (w.heap.size + 1) 30 #[.int .i64 0, .slice none 0 0] ∧ pre.length + U.nodes ≤ 64

theorem Row.base {S : Nat → Prop} {b b' : Nat} {v : Value} {ts : List Ty} {w : World} (h : Row S b v ts w) (hb : b' ≤ b) : Row S b' v ts w := by
  obtain ⟨xs, ⟨hl, hown⟩, ht⟩ := h
  refine ⟨xs, ⟨hl, ?_⟩, ht⟩
  rcases hown with h | ⟨g, cap, cur, hv, hg, rest⟩
  · exact .inl h
  · exact .inr ⟨g, cap, cur, hv, Nat.le_trans hb hg, rest⟩

theorem box2_facts (w : World) (x y : Value) :
    ((w.alloc (Obj.cells #[x, y] 30)).alloc (Obj.cells #[Value.int IntKind.i64 0, .slice none 0 0] 30)).heap.size = w.heap.size + 2 ∧
    Below w.heap.size w ((w.alloc (Obj.cells #[x, y] 30)).alloc (Obj.cells #[Value.int IntKind.i64 0, .slice none 0 0] 30)) ∧
    Blk ((w.alloc (Obj.cells #[x, y] 30)).alloc (Obj.cells #[Value.int IntKind.i64 0, .slice none 0 0] 30)) w.heap.size 30 #[x, y] ∧
    Blk ((w.alloc (Obj.cells #[x, y] 30)).alloc (Obj.cells #[Value.int IntKind.i64 0, .slice none 0 0] 30)) (w.heap.size + 1) 30 #[.int .i64 0, .slice none 0 0] := by
  have a1 := World.size_alloc w (Obj.cells #[x, y] 30)
  have b0 := Blk.new w 30 #[x, y]
  have k1 : Below w.heap.size w (w.alloc (Obj.cells #[x, y] 30)) := (Below.refl _ _).alloc (Nat.le_refl _) _
  generalize w.alloc (Obj.cells #[x, y] 30) = w1 at a1 b0 k1
  have a2 := World.size_alloc w1 (Obj.cells #[Value.int IntKind.i64 0, .slice none 0 0] 30)
  have b1 := Blk.new w1 30 #[.int .i64 0, .slice none 0 0]
  have z1 : w1.heap.size = w.heap.size + 1 := a1
  rw [z1] at b1
  exact ⟨by omega, k1.alloc (by omega) _, b0.alloc _, b1⟩

theorem res_cells {w w2 : World} {row : Option Nat} {n : Nat} {a : Addr} {x y : Value} (hg : w.grownBy w2 row) (hr : ∀ k, row = some k → n ≤ k) (ha : a.block < n) (hn : n ≤ w.heap.size)
    (h0 : w.cell? ⟨a.block, a.off + 2, none⟩ = some x) (h1 : w.cell? ⟨a.block, a.off + 2 + 1, none⟩ = some y) :
    w2.cell? ⟨a.block, a.off + 2, none⟩ = some x ∧ w2.cell? ⟨a.block, a.off + 2 + 1, none⟩ = some y := by
  have hb : w2.heap[a.block]? = w.heap[a.block]? := hg.block _ (by omega) (fun e => by have := hr _ e.symm; omega)
  exact ⟨(World.cell?_of_block (a := ⟨a.block, a.off + 2, none⟩) hb).trans h0, (World.cell?_of_block (a := ⟨a.block, a.off + 2 + 1, none⟩) hb).trans h1⟩

theorem result_step {w wr w2 : World} {T X Y : Ty} {pre : List Ty} {a : Addr} {D E : Option Addr} {d e c : Nat} {u v2 : Value} {xs : List Value} (_hX : X.ok = true) (hY : Y.ok = true)
    (hA : pre ++ (Ty.mk 4 [X, Y]).argsOf = T.argsOf) (hR : (Ty.mk 4 [X, Y]).res = T.res) (hlen : pre.length + (Ty.mk 4 [X, Y]).nodes ≤ 64) (hbw : Below w.heap.size w wr)
    (hrb : Blk wr (w.heap.size + 1) 30 #[.int .i64 0, .slice none 0 0]) (hbx : Blk wr w.heap.size 30 #[.int .i64 4, .slice (some a) 2 c])
    (gX : IsTy (· < w.heap.size) wr X (.agg #[.int .i64 X.kind, .slice D X.args.length d])) (gY : IsTy (· < w.heap.size) wr Y (.agg #[.int .i64 Y.kind, .slice E Y.args.length e]))
    (hown : wr.ownsRow (w.heap.size + 2) 30 2 u pre.length xs) (hts : Trees (· < w.heap.size) u pre xs wr)
    (hown2 : w2.ownsRow (w.heap.size + 2) 30 2 v2 (pre.length + 1) (xs ++ [.int .i64 X.kind, .slice D X.args.length d]))
    (hg2 : (wr.alloc (.cells #[.int .i64 X.kind, .slice D X.args.length d] 30)).grownBy w2 u.ownBlock)
    (hat2 : v2.ownBlock = u.ownBlock ∨ v2.ownBlock = some (wr.alloc (.cells #[.int .i64 X.kind, .slice D X.args.length d] 30)).heap.size) :
    ResultRel w T Y.nodes v2 ((w2.setCell ⟨w.heap.size, 0, none⟩ (.int .i64 Y.kind)).setCell ⟨w.heap.size, 1, none⟩ (.slice E Y.args.length e)) := by
  have hrow0 : ∀ k, u.ownBlock = some k → w.heap.size + 2 ≤ k ∧ k < wr.heap.size := fun k e => hown.lt k e
  have hs1 := hrb.lt
  have hg3 : wr.grownBy w2 u.ownBlock := only_trans (World.grownBy_alloc wr _ _) hg2
  have hg4 := only_set2 w2 w.heap.size (.int .i64 Y.kind) (.slice E Y.args.length e)
  have hrowW : Row (· < w.heap.size) (w.heap.size + 2) v2 (pre ++ [X]) w2 := by
    refine Row.snoc (hown.alloc _) (hts.kept (World.grownBy_alloc wr _ none) (by simp)) (IsTy.keep (fun b hb => ⟨hb, by simp; omega, fun e => by have := (hrow0 _ e).1; omega⟩) (fun p hp => World.cell?_alloc_lt _ _ _ (by omega)) _ gX) hown2 hg2 hat2
  have hlow : ∀ p : Addr, p.block < w.heap.size → ((w2.setCell ⟨w.heap.size, 0, none⟩ (.int .i64 Y.kind)).setCell ⟨w.heap.size, 1, none⟩ (.slice E Y.args.length e)).cell? p = wr.cell? p := fun p hp =>
    (World.cell?_of_block (hg4.block p.block (by have := hg3.size; omega) (by simp; omega))).trans (World.cell?_of_block (hg3.block p.block (by omega) (fun e => by have := (hrow0 _ e.symm).1; omega)))
  refine ⟨Y, pre ++ [X], E, e, (hbx.grown hg3 (fun e => by have := (hrow0 _ e.symm).1; omega)).set2 _ _, IsTy.keep (fun b h => h) (fun p hp => hlow p hp) _ gY, hY, ?_, ?_, ?_, rfl, ?_, ?_, ?_⟩
  · rw [← hA, argsOf_fun]; simp
  · rw [← hR, res_fun]
  · exact hrowW.kept hg4 (fun k e => by cases e; omega)
  · exact (hbw.grown hg3 (by omega) (fun k e => by have := (hrow0 _ e).1; omega)).grown hg4 (by have := hg3.size; omega) (fun k e => by cases e; exact Nat.le_refl _)
  · exact (hrb.grown hg3 (fun e => by have := (hrow0 _ e.symm).1; omega)).grown hg4 (by simp)
  · simp only [Ty.nodes, nodesAll] at hlen
    simp; omega

theorem result_end {w wr : World} {T U : Ty} {pre : List Ty} {A A3 : Option Addr} {c c3 : Nat} (he : T.err = 0) (hU : U.ok = true) (h4 : U.kind ≠ 4) (hA : pre ++ U.argsOf = T.argsOf) (hR : U.res = T.res)
    (hbw : Below w.heap.size w wr) (hrow : Row (· < w.heap.size) (w.heap.size + 2) (.slice A3 pre.length c3) pre wr) (hT : IsTy (· < w.heap.size) wr U (.agg #[.int .i64 U.kind, .slice A U.args.length c])) :
    ResultR T w (.returned (.tuple #[.slice A3 pre.length c3, .agg #[.int .i64 U.kind, .slice A U.args.length c], .int .i64 0])) ((wr.setCell ⟨w.heap.size + 1, 0, none⟩ (.int .i64 U.kind)).setCell ⟨w.heap.size + 1, 1, none⟩ (.slice A U.args.length c)).drew := by
  obtain ⟨h1, h2⟩ := argsOf_other hU h4
  have hg := only_drewN (only_set2 wr (w.heap.size + 1) (.int .i64 U.kind) (.slice A U.args.length c)) 1
  change wr.grownBy ((wr.setCell ⟨w.heap.size + 1, 0, none⟩ (.int .i64 U.kind)).setCell ⟨w.heap.size + 1, 1, none⟩ (.slice A U.args.length c)).drew _ at hg
  refine ⟨hbw.grown hg hbw.size (fun k e => by cases e; omega), ?_⟩
  rw [if_pos he]
  refine ⟨_, _, rfl, ?_, ?_⟩
  · rw [← hA, h1, List.append_nil]
    exact ((hrow.kept hg (fun k e => by cases e; omega)).base (by omega))
  · rw [← hR, h2]
    exact IsTy.keep (fun b h => h) (fun p hp => World.cell?_of_block (hg.block p.block (by have := hbw.size; omega) (by simp; omega))) _ hT

end Go.Proofs.YtifijgihcincfaaDoor
