/- The walk of the law on levels. -/
import Derived.Test.YtlmpofbiojjjgaaSane
namespace Go.Proofs.Ytlmpofbiojjjgaa
open Go.RowKit Go.Shelf

theorem size_is (T : Ty) (n : Nat) (v : Value) (w : World) (he : T.err = 0) (hn : T.nodes = n) (hT : IsTy (· < w.heap.size) w T v) :
    Calls Try.prog 12 #[v] w fun e w' => e = .returned (.tuple #[.int .i64 (n : Int), .int .i64 0]) ∧ Below w.heap.size w w' := by
  refine (size_any T v w (by have := (err_zero.1 he).2; omega) hT).mono ?_
  rintro e w' ⟨rfl, hb⟩
  exact ⟨by rw [err_count he, he, hn], hb⟩

theorem function_is (l : List Ty) (T : Ty) (s v : Value) (w : World) (hsz : nodesAll l + T.nodes ≤ 100000) (he : funErr l T = 0) (hl : AreIn (· < w.heap.size) w l s) (hT : IsTy (· < w.heap.size) w T v) :
    Calls Try.prog 25 #[s, v] w fun e w' => ∃ v', e = .returned (.tuple #[v', .int .i64 0]) ∧ IsTy (· < w'.heap.size) w' (funTy l T) v' ∧ Below w.heap.size w w' := by
  refine (function_any l T s v w hsz hl hT).mono ?_
  rintro e w' ⟨hb, h⟩
  rw [if_pos he] at h
  obtain ⟨v', rfl, h⟩ := h
  exact ⟨v', rfl, h, hb⟩

theorem AreIn.one {w : World} {T : Ty} {x y : Value} (h : IsTy (· < w.heap.size) w T (.agg #[x, y])) :
    AreIn (· < (w.alloc (.cells #[x, y] 25)).heap.size) (w.alloc (.cells #[x, y] 25)) [T] (.slice (some ⟨w.heap.size, 0, none⟩) 1 1) := by
  refine ⟨_, 1, rfl, fun _ => ⟨_, rfl, by simp, ?_⟩⟩
  have hb := Blk.new w 25 #[x, y]
  obtain ⟨h0, h1, _, _⟩ := hb.facts2
  unfold AreTys
  refine ⟨⟨x, y, h0, h1, IsTy.keep (fun b hb => by simp; omega) (fun p hp => World.cell?_alloc_lt _ _ _ hp) _ h⟩, ?_⟩
  unfold AreTys
  trivial

set_option maxRecDepth 100000 in
set_option maxHeartbeats 4000000 in
theorem levelsLaw_small (A : Option Addr) (len cap : Nat) (w : World) (hlen : len ≤ 500) (hA : ∀ i, i < len → ∃ a x, A = some a ∧ a.block < w.heap.size ∧ w.cell? (a.add i) = some (.int .i64 x)) :
    Calls Try.prog 5 #[.slice A len cap] w fun e w' => e = .returned (.bool true) ∧ Below w.heap.size w w' := by
  have hA' := Lib.hid hA
  clear hA
  have e500 : decide ((len : Int) ≤ 500) = true := by simp; omega
  go_enter Try.func5, Try.ntmps5
  go_wp2_with fail
  refine (sane_any w).mono ?_
  rintro e w1 ⟨rfl, hb1⟩
  go_wp2_with fail
  refine (few_any A len cap w1 (by simp only [maxLen]; omega)).mono ?_
  rintro e w1' ⟨rfl, rfl⟩
  rw [e500]
  go_wp2_with fail
  have hA1 : ∀ i, i < len → ∃ a x, A = some a ∧ a.block < w1.heap.size ∧ w1.cell? (a.add i) = some (.int .i64 x) := fun i hi => by
    obtain ⟨a, x, h1, h2, h3⟩ := hA'.out i hi
    exact ⟨a, x, h1, Nat.lt_of_lt_of_le h2 hb1.size, (hb1.cell (by rw [add_block]; exact h2)).trans h3⟩
  refine (new_any A len cap w1 hlen hA1).mono ?_
  rintro e w2 ⟨rfl, hw2⟩
  have hd2 := new_deck A len cap w1 hlen hA1
  rw [hw2] at hd2
  have hb2 : Below w.heap.size w w2 := by rw [← hw2]; exact hb1.alloc hb1.size _
  have hz2 : w1.heap.size < w2.heap.size := hd2.lt
  clear hw2 hA1
  go_wp2_with fail
  refine (type_any 2 2 w1.heap.size w2 (by omega) (by omega) (by omega) hd2).mono ?_
  rintro e w3 ⟨X, x, rfl, okX, szX, tyX, hd3, hg3⟩
  go_wp2_with fail
  refine (type_any 2 2 w1.heap.size w3 (by omega) (by omega) (by omega) hd3).mono ?_
  rintro e w4 ⟨Y, y, rfl, okY, szY, tyY, hd4, hg4⟩
  have tyX4 := tyX.grown hg4 (by omega)
  have hw3 := hg3.size
  have hw4 := hg4.size
  have hx : IsTy (· < w4.heap.size) w4 X x := IsTy.keep (fun b h => h.2) (fun _ _ => rfl) _ tyX4
  have hy : IsTy (· < w4.heap.size) w4 Y y := IsTy.keep (fun b h => h.2) (fun _ _ => rfl) _ tyY
  have hb4 : Below w.heap.size w w4 := (hb2.grown hg3 hb2.size (fun k e => by cases e; exact hb1.size)).grown hg4 (by have := hb2.size; omega) (fun k e => by cases e; exact hb1.size)
  clear hd2 hd3 hd4 hg3 hg4 tyX tyX4 tyY hb1 hb2
  obtain ⟨A1, c1, rfl⟩ := hx.form
  obtain ⟨A2, c2, rfl⟩ := hy.form
  go_wp2_with fail
  have e8 : 2 ^ (2 + 1) = 8 := rfl
  rw [e8] at szX szY
  clear e8
  have heX : X.err = 0 := err_zero.2 ⟨okX, by omega⟩
  have heY : Y.err = 0 := err_zero.2 ⟨okY, by omega⟩
  have heF : funErr [X] Y = 0 := by unfold funErr; simp only [errs, if_pos heX, if_true, if_pos heY, nodesAll, List.length_cons, List.length_nil]; exact if_pos (by omega)
  have okF : (funTy [X] Y).err = 0 := err_zero.2 ⟨by simp [funTy, Ty.ok, okAll, okX, okY], by simp only [funTy, List.foldr, Ty.nodes, nodesAll]; omega⟩
  have nF : (funTy [X] Y).nodes = X.nodes + Y.nodes + 1 := by simp only [funTy, List.foldr, Ty.nodes, nodesAll]; omega
  have lF : (funTy [X] Y).level = max (X.level + 1) Y.level := level_fun X Y
  have hlX := level_le _ X (Nat.le_refl _) okX
  have hlY := level_le _ Y (Nat.le_refl _) okY
  obtain ⟨k1, z1, b1⟩ := alloc_facts hb4 hb4.size #[.int .i64 X.kind, .slice A1 X.args.length c1] 25
  have hx1 := hx.boxed ((Below.refl _ _).alloc (Nat.le_refl _) (Obj.cells #[.int .i64 X.kind, .slice A1 X.args.length c1] 25))
  have hy1 := hy.boxed ((Below.refl _ _).alloc (Nat.le_refl _) (Obj.cells #[.int .i64 X.kind, .slice A1 X.args.length c1] 25))
  generalize w4.alloc (Obj.cells #[.int .i64 X.kind, .slice A1 X.args.length c1] 25) = w5 at k1 z1 b1 hx1 hy1 ⊢
  obtain ⟨k2, z2, b2⟩ := alloc_facts k1 k1.size #[.int .i64 Y.kind, .slice A2 Y.args.length c2] 25
  have b1 := b1.alloc (Obj.cells #[.int .i64 Y.kind, .slice A2 Y.args.length c2] 25)
  have hx2 := hx1.boxed ((Below.refl _ _).alloc (Nat.le_refl _) (Obj.cells #[.int .i64 Y.kind, .slice A2 Y.args.length c2] 25))
  have hy2 := hy1.boxed ((Below.refl _ _).alloc (Nat.le_refl _) (Obj.cells #[.int .i64 Y.kind, .slice A2 Y.args.length c2] 25))
  rw [z1] at b2
  generalize w5.alloc (Obj.cells #[.int .i64 Y.kind, .slice A2 Y.args.length c2] 25) = w6 at k2 z2 b1 b2 hx2 hy2 ⊢
  rw [show w4.heap.size + 1 + 1 = w6.heap.size from by omega]
  have hl6 := AreIn.one hx2
  have hy6 := hy2.boxed ((Below.refl _ _).alloc (Nat.le_refl _) (Obj.cells #[.int .i64 X.kind, .slice A1 X.args.length c1] 25))
  have hx6 := hx2.boxed ((Below.refl _ _).alloc (Nat.le_refl _) (Obj.cells #[.int .i64 X.kind, .slice A1 X.args.length c1] 25))
  obtain ⟨k3, z3, _⟩ := alloc_facts k2 k2.size #[.int .i64 X.kind, .slice A1 X.args.length c1] 25
  have b1 := b1.alloc (Obj.cells #[.int .i64 X.kind, .slice A1 X.args.length c1] 25)
  have b2 := b2.alloc (Obj.cells #[.int .i64 X.kind, .slice A1 X.args.length c1] 25)
  generalize w6.alloc (Obj.cells #[.int .i64 X.kind, .slice A1 X.args.length c1] 25) = w7 at k3 z3 b1 b2 hl6 hy6 hx6 ⊢
  refine (function_is [X] Y _ _ w7 (by simp only [nodesAll]; omega) heF hl6 hy6).mono ?_
  rintro e w8 ⟨v, rfl, hv, hb8⟩
  obtain ⟨A3, c3, rfl⟩ := hv.form
  have HF := Lib.hid (And.intro heX (And.intro heY (And.intro heF (And.intro okF (And.intro nF lF)))))
  clear heX heY heF okF nF lF
  have b1 := b1.below hb8 (by omega)
  have b2 := b2.below hb8 (by omega)
  have hx8 := hx6.boxed hb8
  have hy8 := hy6.boxed hb8
  have k8 := k3.trans (hb8.mono (by have := k3.size; omega))
  have hz8 := hb8.size
  have a0 := fun o => (b1.alloc o).facts2.1
  have a1 := fun o => (b1.alloc o).facts2.2.1
  go_wp2_with fail
  obtain ⟨k9, z9, b3⟩ := alloc_facts k8 k8.size #[.int .i64 (funTy [X] Y).kind, .slice A3 (funTy [X] Y).args.length c3] 25
  have hb9 := (Below.refl w8.heap.size w8).alloc (Nat.le_refl _) (Obj.cells #[.int .i64 (funTy [X] Y).kind, .slice A3 (funTy [X] Y).args.length c3] 25)
  have hx9 := hx8.boxed hb9
  have hy9 := hy8.boxed hb9
  have hv9 := hv.boxed hb9
  have b1 := b1.alloc (Obj.cells #[.int .i64 (funTy [X] Y).kind, .slice A3 (funTy [X] Y).args.length c3] 25)
  have b2 := b2.alloc (Obj.cells #[.int .i64 (funTy [X] Y).kind, .slice A3 (funTy [X] Y).args.length c3] 25)
  clear a0 a1
  generalize w8.alloc (Obj.cells #[.int .i64 (funTy [X] Y).kind, .slice A3 (funTy [X] Y).args.length c3] 25) = w9 at k9 z9 b3 hx9 hy9 hv9 b1 b2 ⊢
  have z10 : w.heap.size ≤ w9.heap.size := k9.size
  clear hb9
  refine (levelOf_is X X.level _ w9 HF.out.1 rfl hx9).mono ?_
  rintro e w10 ⟨rfl, hb10⟩
  have b1 := b1.below hb10 b1.lt
  have b2 := b2.below hb10 b2.lt
  have b3 := b3.below hb10 b3.lt
  have hx10 := hx9.boxed hb10
  have hy10 := hy9.boxed hb10
  have hv10 := hv9.boxed hb10
  have k10 := k9.trans (hb10.mono k9.size)
  obtain ⟨c10a, c10b, _, _⟩ := b2.facts2
  go_wp2_with fail
  clear c10a c10b
  refine (levelOf_is Y Y.level _ w10 HF.out.2.1 rfl hy10).mono ?_
  rintro e w11 ⟨rfl, hb11⟩
  have b1 := b1.below hb11 b1.lt
  have b2 := b2.below hb11 b2.lt
  have b3 := b3.below hb11 b3.lt
  have hx11 := hx10.boxed hb11
  have hy11 := hy10.boxed hb11
  have hv11 := hv10.boxed hb11
  have k11 := k10.trans (hb11.mono k10.size)
  obtain ⟨c11a, c11b, _, _⟩ := b3.facts2
  go_wp2_with fail
  clear c11a c11b
  refine (levelOf_is (funTy [X] Y) (max (X.level + 1) Y.level) _ w11 HF.out.2.2.2.1 HF.out.2.2.2.2.2 hv11).mono ?_
  rintro e w12 ⟨rfl, hb12⟩
  have b1 := b1.below hb12 b1.lt
  have b2 := b2.below hb12 b2.lt
  have b3 := b3.below hb12 b3.lt
  have hx12 := hx11.boxed hb12
  have hy12 := hy11.boxed hb12
  have hv12 := hv11.boxed hb12
  have k12 := k11.trans (hb12.mono k11.size)
  obtain ⟨c12a, c12b, _, _⟩ := b1.facts2
  go_wp2_with fail
  clear c12a c12b
  refine (size_is X X.nodes _ w12 HF.out.1 rfl hx12).mono ?_
  rintro e w13 ⟨rfl, hb13⟩
  have b1 := b1.below hb13 b1.lt
  have b2 := b2.below hb13 b2.lt
  have b3 := b3.below hb13 b3.lt
  have hx13 := hx12.boxed hb13
  have hy13 := hy12.boxed hb13
  have hv13 := hv12.boxed hb13
  have k13 := k12.trans (hb13.mono k12.size)
  obtain ⟨c13a, c13b, _, _⟩ := b2.facts2
  go_wp2_with fail
  clear c13a c13b
  refine (size_is Y Y.nodes _ w13 HF.out.2.1 rfl hy13).mono ?_
  rintro e w14 ⟨rfl, hb14⟩
  have b1 := b1.below hb14 b1.lt
  have b2 := b2.below hb14 b2.lt
  have b3 := b3.below hb14 b3.lt
  have hx14 := hx13.boxed hb14
  have hy14 := hy13.boxed hb14
  have hv14 := hv13.boxed hb14
  have k14 := k13.trans (hb14.mono k13.size)
  obtain ⟨c14a, c14b, _, _⟩ := b3.facts2
  go_wp2_with fail
  clear c14a c14b
  refine (size_is (funTy [X] Y) (X.nodes + Y.nodes + 1) _ w14 HF.out.2.2.2.1 HF.out.2.2.2.2.1 hv14).mono ?_
  rintro e w15 ⟨rfl, hb15⟩
  have b1 := b1.below hb15 b1.lt
  have b2 := b2.below hb15 b2.lt
  have b3 := b3.below hb15 b3.lt
  have hx15 := hx14.boxed hb15
  have hy15 := hy14.boxed hb15
  have hv15 := hv14.boxed hb15
  have k15 := k14.trans (hb15.mono k14.size)
  by_cases hc : X.level + 1 < Y.level
  · rw [show max (X.level + 1) Y.level = Y.level from by omega]
    have hd : decide ((X.level : Int) + 1 < (Y.level : Int)) = true := by simp; omega
    go_wp2_with fail
    go_ret
    exact ⟨rfl, k15⟩
  · rw [show max (X.level + 1) Y.level = X.level + 1 from by omega]
    have hd : decide ((X.level : Int) + 1 < (Y.level : Int)) = false := by simp; omega
    go_wp2_with fail
    go_ret
    exact ⟨rfl, k15⟩

theorem levelsLaw_long (A : Option Addr) (len cap : Nat) (w : World) (hlen : 500 < len) (hmax : len ≤ maxLen) :
    Calls Try.prog 5 #[.slice A len cap] w fun e w' => e = .returned (.bool true) ∧ Below w.heap.size w w' := by
  have e500 : decide ((len : Int) ≤ 500) = false := by simp; omega
  go_enter Try.func5, Try.ntmps5
  go_wp2_with fail
  refine (sane_any w).mono ?_
  rintro e w1 ⟨rfl, hb1⟩
  go_wp2_with fail
  refine (few_any A len cap w1 hmax).mono ?_
  rintro e w1' ⟨rfl, rfl⟩
  rw [e500]
  go_wp2_with fail
  go_ret
  exact ⟨rfl, hb1⟩
end Go.Proofs.Ytlmpofbiojjjgaa
