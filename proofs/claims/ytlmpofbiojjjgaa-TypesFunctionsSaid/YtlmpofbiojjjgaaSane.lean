/- The sanity check of the first chapter. -/
import Derived.Test.YtlmpofbiojjjgaaSame
namespace Go.Proofs.Ytlmpofbiojjjgaa
open Go.RowKit Go.Shelf

def natTy : Ty := .mk 1 []
def funTy1 : Ty := .mk 4 [natTy, natTy]
def funTy2 : Ty := .mk 4 [funTy1, natTy]
theorem sane_facts : funTy1.err = 0 ∧ funTy2.err = 0 ∧ funTy1.level = 1 ∧ funTy2.level = 2 ∧ natTy.nodes ≤ 1000 ∧ funTy1.nodes ≤ 1000 ∧ funTy2.nodes ≤ 1000 := by
  refine ⟨by decide, by decide, ?_, ?_, by decide, by decide, by decide⟩
  · simp [funTy1, natTy, level_fun, level_leaf]
  · simp [funTy2, funTy1, natTy, level_fun, level_leaf]

theorem natTy_is (S : Nat → Prop) (w : World) : IsTy S w natTy (.agg #[.int .i64 1, .slice none 0 0]) := IsTy.leaf S w 1

theorem sane_keep {w w' : World} {g : Nat} {x y : Value} (h : Blk w g 25 #[x, y]) (hb : Below w.heap.size w w') (hg : g < w.heap.size) : w'.cell? ⟨g, 0, none⟩ = some x ∧ w'.cell? ⟨g, 1, none⟩ = some y :=
  ⟨(h.below hb hg).facts2.1, (h.below hb hg).facts2.2.1⟩

theorem levelOf_is (T : Ty) (L : Nat) (v : Value) (w : World) (he : T.err = 0) (hl : T.level = L) (hT : IsTy (· < w.heap.size) w T v) :
    Calls Try.prog 14 #[v] w fun e w' => e = .returned (.tuple #[.int .i64 (L : Int), .int .i64 0]) ∧ Below w.heap.size w w' := by
  refine (levelOf_any T v w (by have := (err_zero.1 he).2; omega) hT).mono ?_
  rintro e w' ⟨rfl, hb⟩
  exact ⟨by rw [if_pos he, he, hl], hb⟩

set_option maxRecDepth 100000 in
set_option maxHeartbeats 2000000 in
theorem sane_any (w : World) : Calls Try.prog 6 #[] w fun e w' => e = .returned (.bool true) ∧ Below w.heap.size w w' := by
  obtain ⟨s1, s2, s3, s4, s5, s6, s7⟩ := sane_facts
  have H1 := Lib.hid s1
  have H2 := Lib.hid s2
  have H3 := Lib.hid s3
  have H4 := Lib.hid s4
  clear s1 s2 s3 s4
  go_enter Try.func6, Try.ntmps6
  go_wp2_with fail
  refine (nat_any _).mono ?_
  rintro e w1 ⟨rfl, hb1⟩
  go_wp2_with fail
  refine (nat_any _).mono ?_
  rintro e w2 ⟨rfl, hb2⟩
  go_wp2_with fail
  refine (fun_any natTy natTy _ _ w2 s5 s5 (natTy_is _ _) (natTy_is _ _)).mono ?_
  rintro e w3 ⟨v, rfl, ht, hb3⟩
  obtain ⟨A, c, rfl⟩ := ht.form
  have ht : IsTy (· < w3.heap.size) w3 funTy1 (.agg #[.int .i64 funTy1.kind, .slice A funTy1.args.length c]) := IsTy.keep (fun b h => h.2) (fun _ _ => rfl) _ ht
  have hb03 : Below w.heap.size w w3 := (hb1.trans (hb2.mono hb1.size)).trans (hb3.mono (Nat.le_trans hb1.size hb2.size))
  go_wp2_with fail
  obtain ⟨hb4, z4, b4⟩ := alloc_facts hb03 hb03.size #[.int .i64 (Ty.mk 4 [natTy, natTy]).kind, .slice A (Ty.mk 4 [natTy, natTy]).args.length c] 25
  have ht4 : IsTy (· < w3.heap.size) (w3.alloc (Obj.cells #[.int .i64 (Ty.mk 4 [natTy, natTy]).kind, .slice A (Ty.mk 4 [natTy, natTy]).args.length c] 25)) funTy1 (.agg #[.int .i64 (Ty.mk 4 [natTy, natTy]).kind, .slice A (Ty.mk 4 [natTy, natTy]).args.length c]) :=
    IsTy.keep (fun b h => h) (fun p hp => World.cell?_alloc_lt _ _ _ hp) _ ht
  generalize w3.alloc (Obj.cells #[.int .i64 (Ty.mk 4 [natTy, natTy]).kind, .slice A (Ty.mk 4 [natTy, natTy]).args.length c] 25) = w4 at hb4 z4 b4 ht4 ⊢
  refine (levelOf_is funTy1 1 _ w4 H1.out H3.out (IsTy.keep (fun b h => by omega) (fun _ _ => rfl) _ ht4)).mono ?_
  rintro e w5 ⟨rfl, hb5⟩
  have b5 := b4.below hb5 (by omega)
  have ht5 : IsTy (· < w3.heap.size) w5 funTy1 (.agg #[.int .i64 (Ty.mk 4 [natTy, natTy]).kind, .slice A (Ty.mk 4 [natTy, natTy]).args.length c]) := IsTy.keep (fun b h => h) (fun p hp => hb5.cell (by omega)) _ ht4
  obtain ⟨c0, c1, _, _⟩ := b5.facts2
  have hw5 := hb5.size
  have H5 := Lib.hid ht5
  have hb05 := hb4.trans (hb5.mono (by have := hb4.size; omega))
  clear ht5 ht4 ht
  go_wp2_with fail
  go_region_held3 (fun w' => w'.cell? ⟨w3.heap.size, 0, none⟩ = some (.int .i64 (Ty.mk 4 [natTy, natTy]).kind) ∧ w'.cell? ⟨w3.heap.size, 1, none⟩ = some (.slice A (Ty.mk 4 [natTy, natTy]).args.length c))
    (first | exact ⟨c0, c1⟩ | exact ⟨c0, c1⟩ | exact sane_keep b5 hb6 (by omega) | exact sane_keep b5 hb7 (by omega) | exact sane_keep b5 hb8 (by omega) | go_keep)
    (first
      | (go_at_call 30
         (with_reducible refine (nat_any _).mono ?_)
         rintro e w6 ⟨rfl, hb6'⟩
         have hb6 : Below w5.heap.size w5 w6 := ((Below.refl _ w5).drew).trans hb6')
      | (go_at_call 29
         (with_reducible refine (fun_any funTy1 natTy _ _ w6 s6 s5 (IsTy.keep (S := (· < w3.heap.size)) (w := w5) (fun b h => by have := hb6.size; omega) (fun p hp => hb6.cell (by omega)) _ H5.out) (natTy_is _ _)).mono ?_)
         rintro e w7 ⟨v7, rfl, ht7, hb7'⟩
         obtain ⟨A7, c7, rfl⟩ := ht7.form
         have hb7 : Below w5.heap.size w5 w7 := hb6.trans (hb7'.mono hb6.size))
      | (go_at_call 14
         (with_reducible refine (levelOf_is funTy2 2 _ w7 H2.out H4.out (IsTy.keep (fun b h => h.2) (fun _ _ => rfl) _ ht7)).mono ?_)
         rintro e w8 ⟨rfl, hb8'⟩
         have hb8 : Below w5.heap.size w5 w8 := hb7.trans (hb8'.mono hb7.size)))
  go_wp2_with fail
  go_ret
  exact ⟨rfl, hb05.trans (hb8.mono hb05.size)⟩
end Go.Proofs.Ytlmpofbiojjjgaa
