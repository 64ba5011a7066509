/- value.list: the term of a list of numbers, made from its end. -/
import Derived.Test.YtieafbmabnohhaaValBack
import Derived.Test.YtieafbmabnohhaaValNum
import Derived.Test.YtieafbmabnohhaaMarks
import Derived.Stop.RegionWithIn
namespace Go.Proofs.Ytieafbmabnohhaa
open Go.RowKit Go.Shelf

attribute [local go_sem] Oper.semAt_some

/-- Between two rounds: the term of what has come stands in block q1. -/
def ListI (w : World) (q1 B qb : Nat) (s : Value) (pre : List Int) (W : World) : Prop :=
  ∃ A c, Blk W q1 37 #[.int .i64 (listTm pre.reverse).kind, .int .i64 0, .int .i64 0, .slice none 0 0, .slice A (listTm pre.reverse).args.length c] ∧
    IsTm (fun b => (w.heap.size < b ∧ b ≠ q1 ∧ ¬ Loop2 B b) ∧ b < W.heap.size) W (listTm pre.reverse) (.agg #[.int .i64 (listTm pre.reverse).kind, .int .i64 0, .int .i64 0, .slice none 0 0, .slice A (listTm pre.reverse).args.length c]) ∧
    Blk W w.heap.size 37 #[.int .i64 0, .int .i64 0, .int .i64 0, .slice none 0 0, .slice none 0 0] ∧ Below w.heap.size w W ∧ Blk W qb 22 #[s] ∧ B + 2 ≤ W.heap.size + 2

theorem listI_turn {w : World} {q1 B qb : Nat} {s : Value} (hq : q1 < B) (hqb : qb < B) (hw : w.heap.size < q1) {pre : List Int} {W W' : World} (h : ListI w q1 B qb s pre W) (ht : Turn (Loop2 B) W W') : ListI w q1 B qb s pre W' := by
  obtain ⟨A, c, h1, h2, h3, h4, h5, h6⟩ := h
  have n1 : ∀ k, k < B → ¬ Loop2 B k := fun k hk e => by rcases e with e | e <;> omega
  have hs := ht.size
  refine ⟨A, c, ht.blk h1 (n1 _ hq), IsTm.keep (fun b hb => ⟨hb.1, Nat.lt_of_lt_of_le hb.2 hs⟩) (fun p hp => World.cell?_of_block (ht.block p.block hp.2 hp.1.2.2)) _ h2, ht.blk h3 (n1 _ (by omega)), ?_, ht.blk h5 (n1 _ hqb), by omega⟩
  exact h4.trans (ht.toBelow (fun k hk => n1 k (by omega)) h4.size)

/-- One more number before the list. -/
theorem listI_step {w W₂ W3 W4 : World} {q1 B qb n c2 : Nat} {s : Value} {pre : List Int} {A2 : Option Addr} {x0 x1 x2 x3 x4 : Value} (hq : q1 < B) (_hqb : qb < B) (hw : w.heap.size < q1) (hqq : qb ≠ q1) (hB : B + 2 ≤ W₂.heap.size)
    (k1 : Blk W₂ q1 37 #[.int .i64 (listTm pre.reverse).kind, .int .i64 0, .int .i64 0, .slice none 0 0, .slice A2 (listTm pre.reverse).args.length c2])
    (ht : IsTm (fun b => (w.heap.size < b ∧ b ≠ q1 ∧ ¬ Loop2 B b) ∧ b < W₂.heap.size) W₂ (listTm pre.reverse) (.agg #[.int .i64 (listTm pre.reverse).kind, .int .i64 0, .int .i64 0, .slice none 0 0, .slice A2 (listTm pre.reverse).args.length c2]))
    (k0 : Blk W₂ w.heap.size 37 #[.int .i64 0, .int .i64 0, .int .i64 0, .slice none 0 0, .slice none 0 0]) (hbw : Below w.heap.size w W₂) (kq : Blk W₂ qb 22 #[s])
    (ht3 : IsTm (fun b => W₂.drew.heap.size ≤ b ∧ b < W3.heap.size) W3 (numTm n) (.agg #[x0, x1, x2, x3, x4])) (hb3 : Below W₂.heap.size W₂ W3)
    (hb4 : Below (W3.alloc (.cells #[x0, x1, x2, x3, x4, .int .i64 (listTm pre.reverse).kind, .int .i64 0, .int .i64 0, .slice none 0 0, .slice A2 (listTm pre.reverse).args.length c2] 37)).heap.size
      (W3.alloc (.cells #[x0, x1, x2, x3, x4, .int .i64 (listTm pre.reverse).kind, .int .i64 0, .int .i64 0, .slice none 0 0, .slice A2 (listTm pre.reverse).args.length c2] 37)) W4) :
    Turn (Not2 B) W₂ (((((W4.setCell ⟨q1, 0, none⟩ (.int .i64 8)).setCell ⟨q1, 1, none⟩ (.int .i64 0)).setCell ⟨q1, 2, none⟩ (.int .i64 0)).setCell ⟨q1, 3, none⟩ (.slice none 0 0)).setCell ⟨q1, 4, none⟩ (.slice (some ⟨W3.heap.size, 0, none⟩) 2 2)) ∧
    ListI w q1 B qb s (pre ++ [(n : Int)]) (((((W4.setCell ⟨q1, 0, none⟩ (.int .i64 8)).setCell ⟨q1, 1, none⟩ (.int .i64 0)).setCell ⟨q1, 2, none⟩ (.int .i64 0)).setCell ⟨q1, 3, none⟩ (.slice none 0 0)).setCell ⟨q1, 4, none⟩ (.slice (some ⟨W3.heap.size, 0, none⟩) 2 2)) := by
  have hz := hbw.size
  have hz3 := hb3.size
  have ew : W₂.drew.heap.size = W₂.heap.size := rfl
  have n1 : ∀ k, k < B → ¬ Loop2 B k := fun k hk e => by rcases e with e | e <;> omega
  have n2 : ∀ k, W₂.heap.size ≤ k → ¬ Loop2 B k := fun k hk e => by rcases e with e | e <;> omega
  have ht2 : IsTm (fun b => (w.heap.size < b ∧ b ≠ q1 ∧ ¬ Loop2 B b) ∧ b < W3.heap.size) W3 (listTm pre.reverse) _ := IsTm.keep (fun b h => ⟨h.1, by omega⟩) (fun p hp => hb3.cell hp.2) _ ht
  have ht3' : IsTm (fun b => (w.heap.size < b ∧ b ≠ q1 ∧ ¬ Loop2 B b) ∧ b < W3.heap.size) W3 (numTm n) _ := IsTm.keep (fun b h => ⟨⟨by omega, by have := k1.lt; omega, n2 b (by omega)⟩, h.2⟩) (fun _ _ => rfl) _ ht3
  have hc := (Rep.Ch.one (R := TmR) (vs := [x0, x1, x2, x3, x4]) ht3').append (Rep.Ch.one (R := TmR) (vs := [.int .i64 (listTm pre.reverse).kind, .int .i64 0, .int .i64 0, .slice none 0 0, .slice A2 (listTm pre.reverse).args.length c2]) ht2)
  have hsl := Rep.Sl.built (R := TmR) hc (fun b h => h.2) (fun b => (w.heap.size < b ∧ b ≠ q1 ∧ ¬ Loop2 B b) ∧ b < W3.heap.size + 1) (fun b h => ⟨h.1, by omega⟩) ⟨⟨by omega, by have := k1.lt; omega, n2 _ (by omega)⟩, by omega⟩
  have s3 := World.size_alloc W3 (.cells #[x0, x1, x2, x3, x4, .int .i64 (listTm pre.reverse).kind, .int .i64 0, .int .i64 0, .slice none 0 0, .slice A2 (listTm pre.reverse).args.length c2] 37)
  have g3 : W3.grownBy (W3.alloc (.cells #[x0, x1, x2, x3, x4, .int .i64 (listTm pre.reverse).kind, .int .i64 0, .int .i64 0, .slice none 0 0, .slice A2 (listTm pre.reverse).args.length c2] 37)) none := World.grownBy_alloc _ _ _
  have hsl : TmR.Sl (fun b => (w.heap.size < b ∧ b ≠ q1 ∧ ¬ Loop2 B b) ∧ b < W3.heap.size + 1) (W3.alloc (.cells #[x0, x1, x2, x3, x4, .int .i64 (listTm pre.reverse).kind, .int .i64 0, .int .i64 0, .slice none 0 0, .slice A2 (listTm pre.reverse).args.length c2] 37)) [numTm n, listTm pre.reverse] (.slice (some ⟨W3.heap.size, 0, none⟩) 2 2) := hsl
  generalize W3.alloc (.cells #[x0, x1, x2, x3, x4, .int .i64 (listTm pre.reverse).kind, .int .i64 0, .int .i64 0, .slice none 0 0, .slice A2 (listTm pre.reverse).args.length c2] 37) = W5 at s3 g3 hsl hb4 ⊢
  have g4 : W₂.grownBy W4 none := only_trans (only_of_below hb3 none) (only_trans g3 (only_of_below hb4 none))
  have s4 := hb4.size
  have hg := only_set5 W4 q1 (.int .i64 8) (.int .i64 0) (.int .i64 0) (.slice none 0 0) (.slice (some ⟨W3.heap.size, 0, none⟩) 2 2)
  have kx := (k1.grown g4 (by simp)).set5 (.int .i64 8) (.int .i64 0) (.int .i64 0) (.slice none 0 0) (.slice (some ⟨W3.heap.size, 0, none⟩) 2 2)
  have hs := hg.size
  refine ⟨(Turn.grown g4 (fun k e => by cases e)).trans (Turn.grown hg (fun k e => by cases e; exact n1 _ hq)), ?_⟩
  have er : listTm (pre ++ [(n : Int)]).reverse = .mk 8 0 .zero [numTm n, listTm pre.reverse] := by
    rw [List.reverse_append]; simp [listTm]
  unfold ListI
  rw [er]
  refine ⟨some ⟨W3.heap.size, 0, none⟩, 2, kx, isTm_iff.2 ⟨rfl, rfl, IsTy.leaf _ _ _, ?_⟩, (k0.grown g4 (by simp)).grown hg (by simp; omega), (hbw.grown g4 (by omega) (by simp)).grown hg (by omega) (fun k e => by cases e; omega), (kq.grown g4 (by simp)).grown hg (by simp; exact hqq), by omega⟩
  exact hsl.keep (fun b hb => ⟨hb.1, by have := hb.2; omega⟩) (fun p hp => (World.cell?_of_block (hg.block p.block (by have := hp.2; omega) (by have := hp.1.2.1; simp; omega))).trans (hb4.cell (by have := hp.2; omega)))

set_option maxRecDepth 100000 in
set_option maxHeartbeats 2000000 in
theorem listV_any (m : List Int) (A : Option Addr) (c : Nat) (w : World) (hm : ∀ x ∈ m, 0 ≤ x ∧ x ≤ 4096) (hl : m.length ≤ 400000) (hs : ZR.Sl (· < w.heap.size) w m (.slice A m.length c)) :
    Calls Try.prog 29 #[.slice A m.length c] w (FreshT w (listTm m)) := by
  have HS := Lib.hid hs
  have HM := Lib.hid hm
  clear hs hm
  refine (callsIn_wide (n := 3)).1 (callsIn_of_wp_marks Try.func29 rfl trivial ?_ rfl)
  simp only [Try.ntmps29, List.size_toArray, List.length_cons, List.length_nil, Nat.reduceAdd, Nat.reduceSub, Array.replicate_succ, Array.replicate_zero, List.push_toArray, List.append_toArray, List.nil_append, List.cons_append]
  gi_wp2_with (first
    | (refine ⟨trivial, ?_⟩; gi_at_call 30; refine (callsIn_wide.2 (node_any 7 none 0 0 _)).mono ?_; rintro e w1 ⟨rfl, hb1⟩)
    | (refine ⟨trivial, ?_⟩; gi_at_call 33; refine (callsIn_wide.2 (backward_any _ _ _ _)).mono ?_; rintro e w2 ⟨rfl, rfl⟩))
  have z0 := hb1.size
  rw [World.size_alloc] at z0
  have k0 : Blk w1 w.heap.size 37 #[.int .i64 0, .int .i64 0, .int .i64 0, .slice none 0 0, .slice none 0 0] := (Blk.new w _ _).below hb1 (by simp)
  have hbw : Below w.heap.size w w1 := ((Below.refl _ _).alloc (Nat.le_refl _) _).trans (hb1.mono (by simp))
  obtain ⟨W0, hW0, zW, kW1, kW0, kWq, hbW⟩ : ∃ W0, W0 = (w1.alloc (Obj.cells #[.int .i64 7, .int .i64 0, .int .i64 0, .slice none 0 0, .slice none 0 0] 37)).alloc (Obj.cells #[.slice A m.length c] 22) ∧
      W0.heap.size = w1.heap.size + 2 ∧ Blk W0 w1.heap.size 37 #[.int .i64 7, .int .i64 0, .int .i64 0, .slice none 0 0, .slice none 0 0] ∧ Blk W0 w.heap.size 37 #[.int .i64 0, .int .i64 0, .int .i64 0, .slice none 0 0, .slice none 0 0] ∧
      Blk W0 (w1.heap.size + 1) 22 #[.slice A m.length c] ∧ Below w.heap.size w W0 := by
    have z1 := World.size_alloc w1 (Obj.cells #[.int .i64 7, .int .i64 0, .int .i64 0, .slice none 0 0, .slice none 0 0] 37)
    have kq := Blk.new (w1.alloc (Obj.cells #[.int .i64 7, .int .i64 0, .int .i64 0, .slice none 0 0, .slice none 0 0] 37)) 22 #[.slice A m.length c]
    rw [z1] at kq
    exact ⟨_, rfl, by simp, (Blk.new w1 _ _).alloc _, (k0.alloc _).alloc _, kq, (hbw.alloc hbw.size _).alloc (by have := hbw.size; simp; omega) _⟩
  rw [← hW0]
  clear hW0 hb1 k0 hbw
  have HI0 : ListI w w1.heap.size W0.heap.size (w1.heap.size + 1) (.slice A m.length c) [] W0 :=
    ⟨none, 0, kW1, isTm_iff.2 ⟨rfl, rfl, IsTy.leaf _ _ _, Rep.Sl.nil _ _⟩, kW0, hbW, kWq, by omega⟩
  refine range_wpQ (by omega) (gf := 35) (lb := #[.pointer (some ⟨w1.heap.size + 1, 0, none⟩)]) rfl (enters_of Try.func35 (by kernel_rfl) rfl)
    (enc := EncB) (xs := m.reverse) (fun x args W h => by obtain ⟨i, rfl⟩ := h; rfl)
    (backward_iter _ (w1.heap.size + 1) (· < w.heap.size) m A c W0 (by omega) hl (by omega) kWq)
    (ListI w w1.heap.size W0.heap.size (w1.heap.size + 1) (.slice A m.length c)) (fun _ _ => False) (fun pre W W' h ht => listI_turn (by omega) (by omega) (by omega) h ht) (fun _ _ _ h => h.elim) HI0
    (fun pre W h => by obtain ⟨A1, c1, h1, h2, h3, h4, h5, h6⟩ := h; exact ⟨h5, HS.out.keep (fun _ h => h) (fun p hp => h4.cell hp)⟩) ?round ?done (fun _ _ h => h.elim)
  case round =>
    rintro pre x args W _ hpre hW ⟨i, rfl⟩
    have hxm : x ∈ m := by
      have : x ∈ m.reverse := hpre.subset (by simp)
      simpa using this
    obtain ⟨n, rfl⟩ : ∃ n : Nat, x = (n : Int) := ⟨x.toNat, by have := HM.out x hxm; omega⟩
    have hn : n ≤ 4096 := by have := HM.out _ hxm; omega
    gi_wp2
    refine ⟨Below.refl _ _, ?_⟩
    rintro W₂ hg ⟨A2, c2, k1, ht, k0, hbw, kq, hz⟩
    obtain ⟨r0, r1, r2, r3, r4, _, _, _, _, _⟩ := k1.facts5
    have HK := Lib.hid (And.intro k1 (And.intro ht (And.intro k0 (And.intro hbw (And.intro kq hz)))))
    have HG := Lib.hid hg
    have HKB := Lib.hid fun (W3 : World) (h : Below W₂.heap.size W₂ W3) => (k1.below h k1.lt).facts5
    clear k1 ht k0 hbw kq hg hpre hxm
    gi_wp2
    gi_region_with (first
      | (refine ⟨trivial, ?_⟩; gi_at_call 28; refine (CallsIn.inRound _ (callsIn_wide.2 (numberV_any n _ hn))).mono ?_; rintro e W3 ⟨v3, rfl, ht3, hb3⟩; obtain ⟨B3, d3, A3, c3, rfl, _⟩ := ht3.form; have hb3' : Below W₂.heap.size W₂ W3 := ((Below.refl _ W₂).drew).trans hb3; obtain ⟨s0, s1, s2, s3, s4, _⟩ := HKB.out W3 hb3'; clear hb3)
      | (refine ⟨trivial, ?_⟩; gi_at_call 30; refine (CallsIn.inRound _ (callsIn_wide.2 (node_any 8 _ 2 2 _))).mono ?_; rintro e W4 ⟨rfl, hb4⟩; have HK4 := Lib.hid ((((HK.out.1).below hb3' HK.out.1.lt).alloc _).below hb4 (by have := (HK.out.1.below hb3' HK.out.1.lt).lt; simp; omega)); obtain ⟨_, _, _, _, _, f0, f1, f2, f3, f4⟩ := HK4.out.facts5))
    all_goals
      obtain ⟨k1, ht, k0, hbw, kq, _⟩ := HK.out
      have hz2 := HG.out.size
      have AFTER := Lib.hid (listI_step (by omega) (by omega) (by omega) (by omega) (by omega) k1 ht k0 hbw kq ht3 hb3' hb4)
      clear k1 ht k0 hbw kq ht3 hb4
      gi_wp2
      exact ⟨AFTER.out.1, AFTER.out.2⟩
  case done =>
    rintro W ⟨A1, c1, k1, ht, k0, hbw, kq, hz⟩ hzW hD
    rw [List.reverse_reverse] at k1 ht
    obtain ⟨r0, r1, r2, r3, r4, _⟩ := k1.facts5
    obtain ⟨_, _, _, _, _, f0, f1, f2, f3, f4⟩ := k0.facts5
    have HK := Lib.hid (And.intro k0 (And.intro ht (And.intro hbw hD)))
    clear k1 ht kq hbw k0
    gi_wp2
    have hg := only_set5 W w.heap.size (.int .i64 (listTm m).kind) (.int .i64 0) (.int .i64 0) (.slice none 0 0) (.slice A1 (listTm m).args.length c1)
    obtain ⟨k0, ht, hbw, _⟩ := HK.out
    obtain ⟨z0', z1', z2', z3', z4', _⟩ := ((k0.set5 (.int .i64 (listTm m).kind) (.int .i64 0) (.int .i64 0) (.slice none 0 0) (.slice A1 (listTm m).args.length c1)).putObj (D := W0.heap.size) (.deferred none) (by omega)).facts5
    refine marks_end (v := .agg #[.int .i64 (listTm m).kind, .int .i64 0, .int .i64 0, .slice none 0 0, .slice A1 (listTm m).args.length c1]) ?_ (by simp [results, Try.results29, go_sem, z0', z1', z2', z3', z4']) ⟨_, rfl, ?_, below_put (hbw.grown hg hbw.size (fun k e => by cases e; omega)) _ (Nat.le_refl _) (by omega)⟩
    · rw [hg.block _ hzW (by simp; omega)]
      exact hD
    · have hg2 := grownBy_putObj' (((((W.setCell ⟨w.heap.size, 0, none⟩ (.int .i64 (listTm m).kind)).setCell ⟨w.heap.size, 1, none⟩ (.int .i64 0)).setCell ⟨w.heap.size, 2, none⟩ (.int .i64 0)).setCell ⟨w.heap.size, 3, none⟩ (.slice none 0 0)).setCell ⟨w.heap.size, 4, none⟩ (.slice A1 (listTm m).args.length c1)) W0.heap.size (.deferred none)
      have s1 := hg.size
      have s2 := hg2.size
      exact IsTm.keep (fun b h => ⟨by omega, by omega⟩) (fun p hp => (World.cell?_of_block (hg2.block p.block (by omega) (by simp; exact fun e => hp.1.2.2 (.inl e)))).trans (World.cell?_of_block (hg.block p.block hp.2 (by simp; omega)))) _ ht
end Go.Proofs.Ytieafbmabnohhaa
