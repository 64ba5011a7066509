/- Result and Function. -/
import Derived.Test.YtlmpofbiojjjgaaCheck
import Derived.Deep.LoopGhost
namespace Go.Proofs.Ytlmpofbiojjjgaa
open Go.RowKit Go.Shelf

/-- The arguments of a function, and what is left. -/
def Ty.argsOf : Ty → List Ty
  | .mk k [a, b] => if k = 4 then a :: b.argsOf else []
  | _ => []
def Ty.res : Ty → Ty
  | .mk k [a, b] => if k = 4 then b.res else .mk k [a, b]
  | t => t

theorem argsOf_fun (a b : Ty) : (Ty.mk 4 [a, b]).argsOf = a :: b.argsOf := by simp [Ty.argsOf]
theorem res_fun (a b : Ty) : (Ty.mk 4 [a, b]).res = b.res := by simp [Ty.res]
theorem argsOf_other {T : Ty} (hok : T.ok = true) (h : T.kind ≠ 4) : T.argsOf = [] ∧ T.res = T := by
  rcases Ty.ok_cases hok with ⟨k, _, rfl⟩ | ⟨k, A, B, hk, rfl, _, _⟩
  · simp [Ty.argsOf, Ty.res]
  · have : k ≠ 4 := h
    simp [Ty.argsOf, Ty.res, this]

def ResultR (T : Ty) (w : World) (e : Ending) (w' : World) : Prop :=
  Below w.heap.size w w' ∧ if T.err = 0 then ∃ s v, e = .returned (.tuple #[s, v, .int .i64 0]) ∧ Row (· < w.heap.size) w.heap.size s T.argsOf w' ∧ IsTy (· < w.heap.size) w' T.res v
    else e = .returned (.tuple #[.slice none 0 0, .agg #[.int .i64 0, .slice none 0 0], .int .i64 T.err])

def ResultRel (w : World) (T : Ty) (k : Nat) (s : Value) (wr : World) : Prop :=
  ∃ U pre A c, Blk wr w.heap.size 25 #[.int .i64 U.kind, .slice A U.args.length c] ∧ IsTy (· < w.heap.size) wr U (.agg #[.int .i64 U.kind, .slice A U.args.length c]) ∧ U.ok = true ∧
    pre ++ U.argsOf = T.argsOf ∧ U.res = T.res ∧ Row (· < w.heap.size) (w.heap.size + 2) s pre wr ∧ U.nodes = k ∧ Below w.heap.size w wr ∧ Blk wr (w.heap.size + 1) 25 #[.int .i64 0, .slice none 0 0] ∧ pre.length + U.nodes ≤ 64

theorem Row.base {S : Nat → Prop} {b b' : Nat} {v : Value} {ts : List Ty} {w : World} (h : Row S b v ts w) (hb : b' ≤ b) : Row S b' v ts w := by
  obtain ⟨xs, ⟨hl, hown⟩, ht⟩ := h
  refine ⟨xs, ⟨hl, ?_⟩, ht⟩
  rcases hown with h | ⟨g, cap, cur, hv, hg, rest⟩
  · exact .inl h
  · exact .inr ⟨g, cap, cur, hv, Nat.le_trans hb hg, rest⟩

theorem box2_facts (w : World) (x y : Value) :
    ((w.alloc (Obj.cells #[x, y] 25)).alloc (Obj.cells #[Value.int IntKind.i64 0, .slice none 0 0] 25)).heap.size = w.heap.size + 2 ∧
    Below w.heap.size w ((w.alloc (Obj.cells #[x, y] 25)).alloc (Obj.cells #[Value.int IntKind.i64 0, .slice none 0 0] 25)) ∧
    Blk ((w.alloc (Obj.cells #[x, y] 25)).alloc (Obj.cells #[Value.int IntKind.i64 0, .slice none 0 0] 25)) w.heap.size 25 #[x, y] ∧
    Blk ((w.alloc (Obj.cells #[x, y] 25)).alloc (Obj.cells #[Value.int IntKind.i64 0, .slice none 0 0] 25)) (w.heap.size + 1) 25 #[.int .i64 0, .slice none 0 0] := by
  have a1 := World.size_alloc w (Obj.cells #[x, y] 25)
  have b0 := Blk.new w 25 #[x, y]
  have k1 : Below w.heap.size w (w.alloc (Obj.cells #[x, y] 25)) := (Below.refl _ _).alloc (Nat.le_refl _) _
  generalize w.alloc (Obj.cells #[x, y] 25) = w1 at a1 b0 k1
  have a2 := World.size_alloc w1 (Obj.cells #[Value.int IntKind.i64 0, .slice none 0 0] 25)
  have b1 := Blk.new w1 25 #[.int .i64 0, .slice none 0 0]
  have z1 : w1.heap.size = w.heap.size + 1 := a1
  rw [z1] at b1
  exact ⟨by omega, k1.alloc (by omega) _, b0.alloc _, b1⟩

theorem res_cells {w w2 : World} {row : Option Nat} {n : Nat} {a : Addr} {x y : Value} (hg : w.grownBy w2 row) (hr : ∀ k, row = some k → n ≤ k) (ha : a.block < n) (hn : n ≤ w.heap.size)
    (h0 : w.cell? ⟨a.block, a.off + 2, none⟩ = some x) (h1 : w.cell? ⟨a.block, a.off + 2 + 1, none⟩ = some y) :
    w2.cell? ⟨a.block, a.off + 2, none⟩ = some x ∧ w2.cell? ⟨a.block, a.off + 2 + 1, none⟩ = some y := by
  have hb : w2.heap[a.block]? = w.heap[a.block]? := hg.block _ (by omega) (fun e => by have := hr _ e.symm; omega)
  exact ⟨(World.cell?_of_block (a := ⟨a.block, a.off + 2, none⟩) hb).trans h0, (World.cell?_of_block (a := ⟨a.block, a.off + 2 + 1, none⟩) hb).trans h1⟩

theorem result_step {w wr w2 : World} {T X Y : Ty} {pre : List Ty} {a : Addr} {D E : Option Addr} {d e c : Nat} {u v2 : Value} {xs : List Value} (hX : X.ok = true) (hY : Y.ok = true)
    (hA : pre ++ (Ty.mk 4 [X, Y]).argsOf = T.argsOf) (hR : (Ty.mk 4 [X, Y]).res = T.res) (hlen : pre.length + (Ty.mk 4 [X, Y]).nodes ≤ 64) (hbw : Below w.heap.size w wr)
    (hrb : Blk wr (w.heap.size + 1) 25 #[.int .i64 0, .slice none 0 0]) (hbx : Blk wr w.heap.size 25 #[.int .i64 4, .slice (some a) 2 c])
    (gX : IsTy (· < w.heap.size) wr X (.agg #[.int .i64 X.kind, .slice D X.args.length d])) (gY : IsTy (· < w.heap.size) wr Y (.agg #[.int .i64 Y.kind, .slice E Y.args.length e]))
    (hown : wr.ownsRow (w.heap.size + 2) 25 2 u pre.length xs) (hts : Trees (· < w.heap.size) u pre xs wr)
    (hown2 : w2.ownsRow (w.heap.size + 2) 25 2 v2 (pre.length + 1) (xs ++ [.int .i64 X.kind, .slice D X.args.length d]))
    (hg2 : (wr.alloc (.cells #[.int .i64 X.kind, .slice D X.args.length d] 25)).grownBy w2 u.ownBlock)
    (hat2 : v2.ownBlock = u.ownBlock ∨ v2.ownBlock = some (wr.alloc (.cells #[.int .i64 X.kind, .slice D X.args.length d] 25)).heap.size) :
    ResultRel w T Y.nodes v2 ((w2.setCell ⟨w.heap.size, 0, none⟩ (.int .i64 Y.kind)).setCell ⟨w.heap.size, 1, none⟩ (.slice E Y.args.length e)) := by
  have hrow0 : ∀ k, u.ownBlock = some k → w.heap.size + 2 ≤ k ∧ k < wr.heap.size := fun k e => hown.lt k e
  have hs1 := hrb.lt
  have hg3 : wr.grownBy w2 u.ownBlock := only_trans (World.grownBy_alloc wr _ _) hg2
  have hg4 := only_set2 w2 w.heap.size (.int .i64 Y.kind) (.slice E Y.args.length e)
  have hrowW : Row (· < w.heap.size) (w.heap.size + 2) v2 (pre ++ [X]) w2 := by
    refine Row.snoc (hown.alloc _) (hts.kept (World.grownBy_alloc wr _ none) (by simp)) (IsTy.keep (fun b hb => ⟨hb, by simp; omega, fun e => by have := (hrow0 _ e).1; omega⟩) (fun p hp => World.cell?_alloc_lt _ _ _ (by omega)) _ gX) hown2 hg2 hat2
  have hlow : ∀ p : Addr, p.block < w.heap.size → ((w2.setCell ⟨w.heap.size, 0, none⟩ (.int .i64 Y.kind)).setCell ⟨w.heap.size, 1, none⟩ (.slice E Y.args.length e)).cell? p = wr.cell? p := fun p hp =>
    (World.cell?_of_block (hg4.block p.block (by have := hg3.size; omega) (by simp; omega))).trans (World.cell?_of_block (hg3.block p.block (by omega) (fun e => by have := (hrow0 _ e.symm).1; omega)))
  refine ⟨Y, pre ++ [X], E, e, (hbx.grown hg3 (fun e => by have := (hrow0 _ e.symm).1; omega)).set2 _ _, IsTy.keep (fun b h => h) (fun p hp => hlow p hp) _ gY, hY, ?_, ?_, ?_, rfl, ?_, ?_, ?_⟩
  · rw [← hA, argsOf_fun]; simp
  · rw [← hR, res_fun]
  · exact hrowW.kept hg4 (fun k e => by cases e; omega)
  · exact (hbw.grown hg3 (by omega) (fun k e => by have := (hrow0 _ e).1; omega)).grown hg4 (by have := hg3.size; omega) (fun k e => by cases e; exact Nat.le_refl _)
  · exact (hrb.grown hg3 (fun e => by have := (hrow0 _ e.symm).1; omega)).grown hg4 (by simp)
  · simp only [Ty.nodes, nodesAll] at hlen
    simp; omega

theorem result_end {w wr : World} {T U : Ty} {pre : List Ty} {A A3 : Option Addr} {c c3 : Nat} (he : T.err = 0) (hU : U.ok = true) (h4 : U.kind ≠ 4) (hA : pre ++ U.argsOf = T.argsOf) (hR : U.res = T.res)
    (hbw : Below w.heap.size w wr) (hrow : Row (· < w.heap.size) (w.heap.size + 2) (.slice A3 pre.length c3) pre wr) (hT : IsTy (· < w.heap.size) wr U (.agg #[.int .i64 U.kind, .slice A U.args.length c])) :
    ResultR T w (.returned (.tuple #[.slice A3 pre.length c3, .agg #[.int .i64 U.kind, .slice A U.args.length c], .int .i64 0])) ((wr.setCell ⟨w.heap.size + 1, 0, none⟩ (.int .i64 U.kind)).setCell ⟨w.heap.size + 1, 1, none⟩ (.slice A U.args.length c)).drew := by
  obtain ⟨h1, h2⟩ := argsOf_other hU h4
  have hg := only_drewN (only_set2 wr (w.heap.size + 1) (.int .i64 U.kind) (.slice A U.args.length c)) 1
  change wr.grownBy ((wr.setCell ⟨w.heap.size + 1, 0, none⟩ (.int .i64 U.kind)).setCell ⟨w.heap.size + 1, 1, none⟩ (.slice A U.args.length c)).drew _ at hg
  refine ⟨hbw.grown hg hbw.size (fun k e => by cases e; omega), ?_⟩
  rw [if_pos he]
  refine ⟨_, _, rfl, ?_, ?_⟩
  · rw [← hA, h1, List.append_nil]
    exact ((hrow.kept hg (fun k e => by cases e; omega)).base (by omega))
  · rw [← hR, h2]
    exact IsTy.keep (fun b h => h) (fun p hp => World.cell?_of_block (hg.block p.block (by have := hbw.size; omega) (by simp; omega))) _ hT

set_option maxRecDepth 100000 in
set_option maxHeartbeats 2000000 in
theorem result_any (T : Ty) (v : Value) (w : World) (hsz : T.nodes ≤ 100000) (hT : IsTy (· < w.heap.size) w T v) :
    Calls Try.prog 18 #[v] w (ResultR T w) := by
  obtain ⟨A, c, rfl⟩ := hT.form
  obtain ⟨hz, hb, k0, k1⟩ := box2_facts w (.int .i64 T.kind) (.slice A T.args.length c)
  by_cases he : T.err = 0
  · have e2 : (T.err != 0) = false := by simp [he]
    have HE := Lib.hid he
    clear he
    go_enter Try.func18, Try.ntmps18
    go_wp2_with fail
    generalize (w.alloc (Obj.cells #[Value.int IntKind.i64 T.kind, Value.slice A T.args.length c] 25)).alloc (Obj.cells #[Value.int IntKind.i64 0, .slice none 0 0] 25) = W0 at hz hb k0 k1 ⊢
    have hT0 := hT.boxed hb
    go_wp2_with (go_at_call 20; refine (check_any T _ _ hsz hT0).mono ?_; rintro e w' ⟨rfl, hb2⟩)
    have HZ := Lib.hid hz
    have hr1 := k1.below hb2 (by omega)
    have hw2 : Below w.heap.size w w' := hb.trans (hb2.mono (by omega))
    have hok := err_zero.1 HE.out
    have h0 : ResultRel w T T.nodes (.slice none 0 0) w' := ⟨T, [], A, c, k0.below hb2 k0.lt, IsTy.keep (fun b h => h) (fun p hp => hw2.cell hp) _ hT, hok.1, rfl, rfl, Row.nil _ _ _, rfl, hw2, hr1, by simp; exact hok.2⟩
    have HT0 := Lib.hid h0
    clear hz h0
    go_loopg [6] T.nodes (fun k s wr => ResultRel w T k s wr)
    case atStart => exact HT0.out
    case round =>
      obtain ⟨U, pre, A1, c1, hbx, hU, hUok, hargs, hres, hrow, hk, hbw, hrb, hlen⟩ := hrel
      obtain ⟨q0, q1, f0, f1⟩ := hbx.facts2
      have HA := Lib.hid hargs
      have HR := Lib.hid hres
      have HK := Lib.hid hk
      clear hargs hres hk
      by_cases h4 : U.kind = 4
      · rcases Ty.ok_cases hUok with ⟨k, hk', rfl⟩ | ⟨k, X, Y, hk', rfl, hX, hY⟩
        · simp only [Ty.kind] at h4; omega
        · simp only [Ty.kind] at h4
          subst h4
          simp only [Ty.kind, Ty.args, List.length_cons, List.length_nil, Nat.reduceAdd] at hbx hU q0 q1
          obtain ⟨a, D, d, E, e, rfl, ha, g0, g1, k0', k1', gX, gY⟩ := hU.two
          obtain ⟨xs, hown, hts⟩ := hrow
          obtain ⟨i0, hi, hz0, hz1, hz2⟩ := info_parts info_type
          have HS := Lib.hid hts
          have hsz1 := hrb.lt
          clear hts
          have hrow0 : ∀ k, u6.ownBlock = some k → w.heap.size + 2 ≤ k := fun k e => (hown.lt k e).1
          go_wp2_with (at_builtin; (refine wpList_append_own_at _ rfl _ _ 23 rfl (w.heap.size + 2) 25 i0 _ 2 32 Try.underlying23 hi hz0 hz1 hz2 rfl (by decide) u6 pre.length xs rfl (hown.alloc _) ⟨wr.heap.size, 0, none⟩ 1 1 [_, _] rfl rfl (cells_new _ _ _) (by simp [Value.oneCell']) (by simp only [maxLen]; omega) (by omega) (by simp; omega) ?_); intro v2 w2 hown2 hg2 hnil2 hat2
                       have hg3 : wr.grownBy w2 u6.ownBlock := only_trans (World.grownBy_alloc wr _ _) hg2
                       have hbx2 := hbx.grown hg3 (fun e => by have := hrow0 _ e.symm; omega)
                       obtain ⟨p0, p1, f2, f3⟩ := hbx2.facts2
                       obtain ⟨p2, p3⟩ := res_cells hg3 (fun k e => by have := hrow0 k e; omega) ha hbw.size k0' k1')
          go_roundg Y.nodes
          case rel => exact result_step hX hY HA.out HR.out hlen hbw hrb hbx gX gY hown HS.out hown2 hg2 hat2
          case measure => have := HK.out; simp only [Ty.nodes, nodesAll] at this; omega
      · have e4 : (U.kind == 4) = false := by simp [h4]
        have H4 := Lib.hid h4
        clear h4
        obtain ⟨A3, c3, rfl⟩ := hrow.form
        obtain ⟨r0, r1, g0, g1⟩ := hrb.facts2
        go_wp2
        go_region
        all_goals go_wp2
        all_goals
          have z := (hrb.set2 (.int .i64 U.kind) (.slice A1 U.args.length c1)).drew
          obtain ⟨z0, z1, _, _⟩ := z.facts2
          exact bodyPost_ret (v := .tuple #[.slice A3 pre.length c3, .agg #[.int .i64 U.kind, .slice A1 U.args.length c1], .int .i64 0]) (by simp [results, Try.results18, go_sem, z0, z1]) rfl
            (result_end HE.out hUok H4.out HA.out HR.out hbw hrow hU)
  · have e2 : (T.err != 0) = true := by simp [he]
    have HE := Lib.hid he
    clear he
    go_enter Try.func18, Try.ntmps18
    go_wp2_with fail
    generalize (w.alloc (Obj.cells #[Value.int IntKind.i64 T.kind, Value.slice A T.args.length c] 25)).alloc (Obj.cells #[Value.int IntKind.i64 0, .slice none 0 0] 25) = W0 at hz hb k0 k1 ⊢
    have hT0 := hT.boxed hb
    have HZ := Lib.hid hz
    clear hz
    go_wp2_with (go_at_call 20; refine (check_any T _ _ hsz hT0).mono ?_; rintro e w' ⟨rfl, hb2⟩; obtain ⟨d0, d1, f0, f1⟩ := (k1.below hb2 (by have := HZ.out; omega)).facts2)
    have hzz := HZ.out
    obtain ⟨z0, z1, _, _⟩ := ((k1.below hb2 (by omega)).set2 (.int .i64 0) (.slice none 0 0)).facts2
    have hB := hb.trans (hb2.mono (by omega))
    exact bodyPost_ret (v := .tuple #[.slice none 0 0, .agg #[.int .i64 0, .slice none 0 0], .int .i64 T.err]) (by simp [results, Try.results18, go_sem, z0, z1]) rfl
      ⟨hB.grown (only_set2 w' (w.heap.size + 1) _ _) hB.size (fun k e => by cases e; omega), by rw [if_neg HE.out]⟩
end Go.Proofs.Ytlmpofbiojjjgaa
