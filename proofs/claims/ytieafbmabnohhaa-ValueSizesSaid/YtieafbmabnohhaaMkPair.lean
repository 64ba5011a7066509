/- mk.Value of a type of pairs. -/
import Derived.Test.YtieafbmabnohhaaMkVal
import Derived.Deep.RegionHeld3
namespace Go.Proofs.Ytieafbmabnohhaa
open Go.RowKit

theorem value_leaf (k : Int) (hk : k = 1 ∨ k = 2 ∨ k = 5) (g : Nat) (A : Option Addr) (c : Nat) (w : World) (hd : Deck w g) :
    Calls Try.prog 7 #[.pointer (some ⟨g, 0, none⟩), .agg #[.int .i64 k, .slice A 0 c]] w (ValR g (leafV (.mk k [])) w) := by
  rcases hk with rfl | rfl | rfl
  · exact (value_nat g A c w hd).mono fun e w' ⟨V, v, h1, h2, h3⟩ => ⟨V, v, h1, .inl ⟨rfl, h2⟩, h3⟩
  · exact (value_list g A c w hd).mono fun e w' ⟨V, v, h1, h2, h3⟩ => ⟨V, v, h1, .inr (.inl ⟨rfl, h2⟩), h3⟩
  · exact (value_unit g A c w hd).mono fun e w' ⟨V, v, h1, h2, h3⟩ => ⟨V, v, h1, .inr (.inr ⟨rfl, h2⟩), h3⟩

/-- Two values in one slice that was just built. -/
theorem pair_sl {lo : Nat} {w1 w2 : World} {a b : Va} {x0 x1 x2 x3 y0 y1 y2 y3 : Value} (hg : ∀ p : Addr, lo ≤ p.block → p.block < w1.heap.size → w2.cell? p = w1.cell? p) (hz : w1.heap.size ≤ w2.heap.size) (hlo : lo ≤ w2.heap.size)
    (ha : IsVa (fun q => lo ≤ q ∧ q < w1.heap.size) w1 a (.agg #[x0, x1, x2, x3])) (hb : IsVa (fun q => lo ≤ q ∧ q < w2.heap.size) w2 b (.agg #[y0, y1, y2, y3])) :
    IsVa (fun q => lo ≤ q ∧ q < (w2.alloc (.cells #[x0, x1, x2, x3, y0, y1, y2, y3] 29)).heap.size) (w2.alloc (.cells #[x0, x1, x2, x3, y0, y1, y2, y3] 29)) (.mk 3 0 [] [a, b])
      (.agg #[.int .i64 3, .int .i64 0, .slice none 0 0, .slice (some ⟨w2.heap.size, 0, none⟩) 2 2]) := by
  have ha2 : IsVa (fun q => lo ≤ q ∧ q < w2.heap.size) w2 a (.agg #[x0, x1, x2, x3]) := IsVa.keep (fun q h => ⟨h.1, by omega⟩) (fun p hp => hg p hp.1 hp.2) _ ha
  have hc := (Rep.Ch.one (R := VaR) (vs := [x0, x1, x2, x3]) ha2).append (Rep.Ch.one (R := VaR) (vs := [y0, y1, y2, y3]) hb)
  exact isVa_iff.2 ⟨rfl, rfl, Rep.Sl.nil _ _, Rep.Sl.built (R := VaR) hc (fun b h => h.2) _ (fun b h => ⟨h.1, by simp; omega⟩) ⟨hlo, by simp⟩⟩

set_option maxHeartbeats 4000000 in
theorem value_pair (k1 k2 : Int) (h1 : k1 = 1 ∨ k1 = 2 ∨ k1 = 5) (h2 : k2 = 1 ∨ k2 = 2 ∨ k2 = 5) (g : Nat) (v : Value) (w : World) (hd : Deck w g) (hT : IsTy (fun b => b ≠ g ∧ b < w.heap.size) w (.mk 3 [.mk k1 [], .mk k2 []]) v) :
    Calls Try.prog 7 #[.pointer (some ⟨g, 0, none⟩), v] w (ValR g (MadeV (.mk 3 [.mk k1 [], .mk k2 []])) w) := by
  have hgw := hd.lt
  obtain ⟨A, c, rfl⟩ := hT.form
  simp only [Ty.kind, Ty.args, List.length_cons, List.length_nil, Nat.reduceAdd] at hT ⊢
  obtain ⟨W, hW, hbW, hz, b0, b1⟩ := box_tv w (.int .i64 3) (.slice A 2 c) (.int .i64 0) (.int .i64 0) (.slice none 0 0) (.slice none 0 0)
  have hdW := hd.grown (only_of_below hbW none) (by simp)
  have hTW := IsTy.keep (S' := fun b => b ≠ g ∧ b < w.heap.size) (fun _ h => h) (fun p hp => hbW.cell hp.2) _ hT
  obtain ⟨a, D, d, E, e, rfl, ha, r0, r1, s0, s1, _, _⟩ := hTW.two
  simp only [Ty.kind, Ty.args, List.length_nil] at r0 r1 s0 s1
  have HD := Lib.hid (hdW.grown (w' := W.drew) (row := none) ⟨rfl, rfl, rfl, Nat.le_refl _, fun _ _ _ => rfl⟩ (by simp))
  have HB := Lib.hid (And.intro hbW hz)
  have HK1 := Lib.hid b1
  have HSK := Lib.hid fun (w1 : World) (h : Turn (fun k => k = g ∨ k = w.heap.size + 1) W w1) => And.intro (h.blk b0 (by omega)).facts2.2.1
    (And.intro ((World.cell?_of_block (a := a) (h.block a.block (by omega) (by omega))).trans r0) (And.intro ((World.cell?_of_block (a := ⟨a.block, a.off + 1, none⟩) (h.block a.block (by omega) (by omega))).trans r1)
      (And.intro ((World.cell?_of_block (a := ⟨a.block, a.off + 2, none⟩) (h.block a.block (by omega) (by omega))).trans s0) ((World.cell?_of_block (a := ⟨a.block, a.off + 2 + 1, none⟩) (h.block a.block (by omega) (by omega))).trans s1))))
  have H1 := Lib.hid h1
  have H2 := Lib.hid h2
  have qk := b0.facts2.1
  obtain ⟨q1, q2, q3, q4, q5⟩ := HSK.out W (Turn.refl _ _)
  clear b0 b1 hz hdW hT hTW hd r0 r1 s0 s1 h1 h2
  go_enter Try.func7, Try.ntmps7
  go_wp2_with fail
  rw [← hW]
  clear hW qk
  go_region_held3 (fun w' => w'.cell? ⟨w.heap.size, 1, none⟩ = some (.slice (some a) 2 c) ∧ w'.cell? a = some (.int .i64 k1) ∧ w'.cell? ⟨a.block, a.off + 1, none⟩ = some (.slice D 0 d) ∧
      w'.cell? ⟨a.block, a.off + 2, none⟩ = some (.int .i64 k2) ∧ w'.cell? ⟨a.block, a.off + 2 + 1, none⟩ = some (.slice E 0 e))
    (first | with_reducible exact HSK.out _ (Turn.drew _) | with_reducible exact HSK.out _ T1.out | with_reducible exact HSK.out _ T2.out | with_reducible exact HSK.out _ T3.out | with_reducible exact HSK.out _ T4.out | go_keep)
    (first
      | (go_at_call 7
         (with_reducible refine (value_leaf k2 H2.out g E e w1 DK1.out).mono ?_)
         rintro e2 w2 ⟨V2, v2, rfl, hV2, tV2, hd2, hg2⟩
         obtain ⟨B2, d2, A2, c2, rfl⟩ := tV2.form
         have T2 := Lib.hid (T1.out.trans (Turn.grown hg2 (fun k e => by cases e; exact .inl rfl)))
         have T3 := Lib.hid (T2.out.trans (Turn.alloc w2 (Obj.cells #[.int .i64 V1.kind, .int .i64 V1.num, .slice B1 V1.list.length d1, .slice A1 V1.args.length c1, .int .i64 V2.kind, .int .i64 V2.num, .slice B2 V2.list.length d2, .slice A2 V2.args.length c2] 29)))
         have T4 := Lib.hid (T3.out.trans (Turn.grown (only_set4 (w2.alloc (Obj.cells #[.int .i64 V1.kind, .int .i64 V1.num, .slice B1 V1.list.length d1, .slice A1 V1.args.length c1, .int .i64 V2.kind, .int .i64 V2.num, .slice B2 V2.list.length d2, .slice A2 V2.args.length c2] 29)) (w.heap.size + 1) (.int .i64 3) (.int .i64 0) (.slice none 0 0) (.slice (some ⟨w2.heap.size, 0, none⟩) 2 2)) (fun k e => by cases e; exact .inr rfl)))
         have K2 := Lib.hid ((K1.out.grown hg2 (by simp; omega)).alloc (Obj.cells #[.int .i64 V1.kind, .int .i64 V1.num, .slice B1 V1.list.length d1, .slice A1 V1.args.length c1, .int .i64 V2.kind, .int .i64 V2.num, .slice B2 V2.list.length d2, .slice A2 V2.args.length c2] 29))
         obtain ⟨_, _, _, _, f0, f1, f2, f3⟩ := K2.out.facts4
         have HV2 := Lib.hid (And.intro hV2 tV2)
         have DK2 := Lib.hid hd2
         have G2 := Lib.hid hg2
         clear hV2 tV2 hd2 hg2)
      | (go_at_call 7
         (with_reducible refine (value_leaf k1 H1.out g D d W.drew HD.out).mono ?_)
         rintro e1 w1 ⟨V1, v1, rfl, hV1, tV1, hd1, hg1⟩
         obtain ⟨B1, d1, A1, c1, rfl⟩ := tV1.form
         have hg1' : W.grownBy w1 (some g) := ⟨hg1.os, hg1.tape, hg1.output, hg1.size, hg1.block⟩
         have T1 := Lib.hid (Turn.grown (X := fun k => k = g ∨ k = w.heap.size + 1) hg1' (fun k e => by cases e; exact .inl rfl))
         have K1 := Lib.hid (HK1.out.grown hg1' (by simp; omega))
         have HV1 := Lib.hid (And.intro hV1 tV1)
         have DK1 := Lib.hid hd1
         have G1 := Lib.hid hg1'
         clear hV1 tV1 hd1 hg1 hg1'))
  go_wp2_with fail
  obtain ⟨z0, z1, z2, z3, _⟩ := (K2.out.set4 (.int .i64 3) (.int .i64 0) (.slice none 0 0) (.slice (some ⟨w2.heap.size, 0, none⟩) 2 2)).facts4
  refine bodyPost_ret (v := .agg #[.int .i64 3, .int .i64 0, .slice none 0 0, .slice (some ⟨w2.heap.size, 0, none⟩) 2 2]) (by simp [results, Try.results7, go_sem, z0, z1, z2, z3]) rfl ?_
  have hz := HB.out.2
  have hs1 := G1.out.size
  have hs2 := G2.out.size
  have ew : W.drew.heap.size = W.heap.size := rfl
  refine val_end (V := .mk 3 0 [] [V1, V2]) hgw (DK2.out.grown (World.grownBy_alloc _ _ none) (by simp)) (only_alloc (only_trans (only_trans (only_of_below HB.out.1 _) G1.out) G2.out) _) (by simp; omega) (.inr ⟨_, _, V1, V2, rfl, HV1.out.1, HV2.out.1, rfl⟩) ?_
  exact pair_sl (fun p h1 h2 => World.cell?_of_block (G2.out.block p.block h2 (by simp; omega))) hs2 (by omega) (HV1.out.2.keep (fun b h => ⟨by have := h.1; omega, h.2⟩) (fun _ _ => rfl)) (HV2.out.2.keep (fun b h => ⟨by omega, h.2⟩) (fun _ _ => rfl))

/-- mk.Value of a plain type. -/
theorem mkValue_any (T : Ty) (hp : PlainT T) (g : Nat) (v : Value) (w : World) (hd : Deck w g) (hT : IsTy (fun b => b ≠ g ∧ b < w.heap.size) w T v) :
    Calls Try.prog 7 #[.pointer (some ⟨g, 0, none⟩), v] w (ValR g (MadeV T) w) := by
  have leaf : ∀ k : Int, (k = 1 ∨ k = 2 ∨ k = 5) → IsTy (fun b => b ≠ g ∧ b < w.heap.size) w (.mk k []) v → Calls Try.prog 7 #[.pointer (some ⟨g, 0, none⟩), v] w (ValR g (MadeV (.mk k [])) w) := by
    intro k hk hT
    obtain ⟨A, c, rfl⟩ := hT.form
    exact (value_leaf k hk g A c w hd).mono fun e w' ⟨V, v, h1, h2, h3⟩ => ⟨V, v, h1, .inl h2, h3⟩
  rcases hp with rfl | rfl | rfl | rfl | rfl
  · exact leaf 1 (by simp) hT
  · exact leaf 2 (by simp) hT
  · exact leaf 5 (by simp) hT
  · exact value_pair 1 2 (by simp) (by simp) g v w hd hT
  · exact value_pair 1 1 (by simp) (by simp) g v w hd hT
end Go.Proofs.Ytieafbmabnohhaa
