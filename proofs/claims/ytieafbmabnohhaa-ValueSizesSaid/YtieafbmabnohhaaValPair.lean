/- value.term of pairs, and of all made values. -/
import Derived.Test.YtieafbmabnohhaaValTerm
namespace Go.Proofs.Ytieafbmabnohhaa
open Go.RowKit

/-- The two parts of a pair, as the walk asks for them. -/
theorem IsVa.two {S : Nat → Prop} {w : World} {k i : Int} {m : List Int} {x y : Va} {A B : Option Addr} {c d n : Nat} (h : IsVa S w (.mk k i m [x, y]) (.agg #[.int .i64 k, .int .i64 i, .slice B n d, .slice A 2 c])) :
    ∃ (a : Addr) (B1 : Option Addr) (d1 : Nat) (A1 : Option Addr) (c1 : Nat) (B2 : Option Addr) (d2 : Nat) (A2 : Option Addr) (c2 : Nat), A = some a ∧ S a.block ∧
      (w.cell? a = some (.int .i64 x.kind) ∧ w.cell? ⟨a.block, a.off + 1, none⟩ = some (.int .i64 x.num) ∧ w.cell? ⟨a.block, a.off + 2, none⟩ = some (.slice B1 x.list.length d1) ∧ w.cell? ⟨a.block, a.off + 3, none⟩ = some (.slice A1 x.args.length c1)) ∧
      (w.cell? ⟨a.block, a.off + 4, none⟩ = some (.int .i64 y.kind) ∧ w.cell? ⟨a.block, a.off + 4 + 1, none⟩ = some (.int .i64 y.num) ∧ w.cell? ⟨a.block, a.off + 4 + 2, none⟩ = some (.slice B2 y.list.length d2) ∧ w.cell? ⟨a.block, a.off + 4 + 3, none⟩ = some (.slice A2 y.args.length c2)) ∧
      IsVa S w x (.agg #[.int .i64 x.kind, .int .i64 x.num, .slice B1 x.list.length d1, .slice A1 x.args.length c1]) ∧ IsVa S w y (.agg #[.int .i64 y.kind, .int .i64 y.num, .slice B2 y.list.length d2, .slice A2 y.args.length c2]) := by
  have hl := (isVa_iff.1 h).2.2.2
  obtain ⟨a, rfl, ha, h0⟩ := hl.get 0 (by simp)
  obtain ⟨a', e, _, h1⟩ := hl.get 1 (by simp)
  cases e
  obtain ⟨B1, d1, A1, c1, q0, q1, q2, q3, hx⟩ := at_va h0
  obtain ⟨B2, d2, A2, c2, r0, r1, r2, r3, hy⟩ := at_va h1
  rw [show (0 : Nat) * VaR.n = 0 from rfl, add_zero'] at q0 q1 q2 q3
  rw [show (1 : Nat) * VaR.n = 4 from rfl, show a.add 4 = ⟨a.block, a.off + 4, none⟩ from by simp [Addr.add]] at r0 r1 r2 r3
  exact ⟨a, B1, d1, A1, c1, B2, d2, A2, c2, rfl, ha, ⟨q0, q1, q2, q3⟩, ⟨r0, r1, r2, r3⟩, hx, hy⟩

theorem below_set5' {B g : Nat} {w w' : World} (h : Below B w w') (hg : B ≤ g) (a b c d e : Value) :
    Below B w (((((w'.setCell ⟨g, 0, none⟩ a).setCell ⟨g, 1, none⟩ b).setCell ⟨g, 2, none⟩ c).setCell ⟨g, 3, none⟩ d).setCell ⟨g, 4, none⟩ e) :=
  ((((h.setCell (p := ⟨g, 0, none⟩) hg a).setCell (p := ⟨g, 1, none⟩) hg b).setCell (p := ⟨g, 2, none⟩) hg c).setCell (p := ⟨g, 3, none⟩) hg d).setCell (p := ⟨g, 4, none⟩) hg e
/-- Two terms in one slice that was just built, below a node. -/
theorem pair_tm {lo : Nat} {w1 w2 w3 : World} {a b : Tm} {x0 x1 x2 x3 x4 y0 y1 y2 y3 y4 : Value} (hb2 : Below w1.heap.size w1 w2) (hlo : lo ≤ w1.heap.size)
    (ha : IsTm (fun q => lo ≤ q ∧ q < w1.heap.size) w1 a (.agg #[x0, x1, x2, x3, x4])) (hb : IsTm (fun q => lo ≤ q ∧ q < w2.heap.size) w2 b (.agg #[y0, y1, y2, y3, y4]))
    (hb3 : Below (w2.alloc (.cells #[x0, x1, x2, x3, x4, y0, y1, y2, y3, y4] 37)).heap.size (w2.alloc (.cells #[x0, x1, x2, x3, x4, y0, y1, y2, y3, y4] 37)) w3) :
    IsTm (fun q => lo ≤ q ∧ q < w3.heap.size) w3 (.mk 10 0 .zero [a, b]) (.agg #[.int .i64 10, .int .i64 0, .int .i64 0, .slice none 0 0, .slice (some ⟨w2.heap.size, 0, none⟩) 2 2]) := by
  have hz := hb2.size
  have ha2 : IsTm (fun q => lo ≤ q ∧ q < w2.heap.size) w2 a (.agg #[x0, x1, x2, x3, x4]) := IsTm.keep (fun q h => ⟨h.1, by omega⟩) (fun p hp => hb2.cell hp.2) _ ha
  have hc := (Rep.Ch.one (R := TmR) (vs := [x0, x1, x2, x3, x4]) ha2).append (Rep.Ch.one (R := TmR) (vs := [y0, y1, y2, y3, y4]) hb)
  have hs := Rep.Sl.built (R := TmR) hc (fun b h => h.2) (fun q => lo ≤ q ∧ q < w2.heap.size + 1) (fun b h => ⟨h.1, by omega⟩) ⟨by omega, by omega⟩
  have s3 := hb3.size
  rw [World.size_alloc] at s3
  have hs' : TmR.Sl (fun q => lo ≤ q ∧ q < w2.heap.size + 1) (w2.alloc (.cells #[x0, x1, x2, x3, x4, y0, y1, y2, y3, y4] 37)) [a, b] (.slice (some ⟨w2.heap.size, 0, none⟩) 2 2) := hs
  exact isTm_iff.2 ⟨rfl, rfl, IsTy.leaf _ _ _, hs'.keep (fun q h => ⟨h.1, by omega⟩) (fun p hp => hb3.cell (by have := hp.2; simp; omega))⟩

set_option maxHeartbeats 8000000 in
theorem termV_pair {TA TB : Ty} {a b : Va} (h1 : leafV TA a) (h2 : leafV TB b) (v : Value) (w : World) (hv : IsVa (· < w.heap.size) w (.mk 3 0 [] [a, b]) v) :
    Calls Try.prog 21 #[v] w (FreshT w (.mk 10 0 .zero [a.term, b.term])) := by
  obtain ⟨B, d, A, c, rfl⟩ := hv.form
  simp only [Va.kind, Va.num, Va.list, Va.args, List.length_cons, List.length_nil, Nat.reduceAdd] at hv ⊢
  obtain ⟨W, hW, hbW, hz, b0, b1⟩ := box_vt w (.int .i64 3) (.int .i64 0) (.slice B 0 d) (.slice A 2 c) (.int .i64 0) (.int .i64 0) (.int .i64 0) (.slice none 0 0) (.slice none 0 0)
  have hvW := IsVa.keep (S' := (· < w.heap.size)) (fun _ h => h) (fun p hp => hbW.cell hp) _ hv
  obtain ⟨q, B1, d1, A1, c1, B2, d2, A2, c2, rfl, hq, ⟨r0, r1, r2, r3⟩, ⟨s0, s1, s2, s3⟩, hx, hy⟩ := hvW.two
  have hq' : q.block < w.heap.size := hq
  have HB := Lib.hid (And.intro hbW (And.intro hz b1))
  have HSK := Lib.hid fun (w1 : World) (h : Below (w.heap.size + 1) W w1) => And.intro ((b0.below h (Nat.lt_succ_self _)).facts4.2.2.2.1)
    (And.intro ((h.cell (p := q) (by omega)).trans r0) (And.intro ((h.cell (p := ⟨q.block, q.off + 1, none⟩) (by show q.block < _; omega)).trans r1) (And.intro ((h.cell (p := ⟨q.block, q.off + 2, none⟩) (by show q.block < _; omega)).trans r2)
      (And.intro ((h.cell (p := ⟨q.block, q.off + 3, none⟩) (by show q.block < _; omega)).trans r3) (And.intro ((h.cell (p := ⟨q.block, q.off + 4, none⟩) (by show q.block < _; omega)).trans s0)
        (And.intro ((h.cell (p := ⟨q.block, q.off + 4 + 1, none⟩) (by show q.block < _; omega)).trans s1) (And.intro ((h.cell (p := ⟨q.block, q.off + 4 + 2, none⟩) (by show q.block < _; omega)).trans s2) ((h.cell (p := ⟨q.block, q.off + 4 + 3, none⟩) (by show q.block < _; omega)).trans s3))))))))
  have H1 := Lib.hid (And.intro h1 hx)
  have H2 := Lib.hid (And.intro h2 hy)
  have qk := b0.facts4.1
  obtain ⟨p0, p1, p2, p3, p4, p5, p6, p7, p8⟩ := HSK.out W (Below.refl _ _)
  have HW := Lib.hid (show W.heap.size ≤ W.heap.size from Nat.le_refl _)
  clear b0 b1 hz hvW hv hx hy h1 h2 r0 r1 r2 r3 s0 s1 s2 s3 hq
  go_enter Try.func21, Try.ntmps21
  go_wp2_with fail
  rw [← hW]
  clear hW qk
  go_region_held3 (fun w' => w'.cell? ⟨w.heap.size, 3, none⟩ = some (.slice (some q) 2 c) ∧ w'.cell? q = some (.int .i64 a.kind) ∧ w'.cell? ⟨q.block, q.off + 1, none⟩ = some (.int .i64 a.num) ∧ w'.cell? ⟨q.block, q.off + 2, none⟩ = some (.slice B1 a.list.length d1) ∧ w'.cell? ⟨q.block, q.off + 3, none⟩ = some (.slice A1 a.args.length c1) ∧
      w'.cell? ⟨q.block, q.off + 4, none⟩ = some (.int .i64 b.kind) ∧ w'.cell? ⟨q.block, q.off + 4 + 1, none⟩ = some (.int .i64 b.num) ∧ w'.cell? ⟨q.block, q.off + 4 + 2, none⟩ = some (.slice B2 b.list.length d2) ∧ w'.cell? ⟨q.block, q.off + 4 + 3, none⟩ = some (.slice A2 b.args.length c2))
    (first | with_reducible exact HSK.out _ (Below.refl _ _).drew | with_reducible exact HSK.out _ L1.out | with_reducible exact HSK.out _ L2.out | with_reducible exact HSK.out _ L3.out | with_reducible exact HSK.out _ L4.out | with_reducible exact HSK.out _ L5.out | go_keep)
    (first
      | (go_at_call 30
         (with_reducible refine (node_any 10 _ 2 2 _).mono ?_)
         rintro e w3 ⟨rfl, hb3⟩
         have L4 := Lib.hid (L3.out.trans (hb3.mono (by have := HZ2.out; simp; omega)))
         have L5 := Lib.hid (below_set5' L4.out (Nat.le_refl (w.heap.size + 1)) (.int .i64 10) (.int .i64 0) (.int .i64 0) (.slice none 0 0) (.slice (some ⟨w2.heap.size, 0, none⟩) 2 2))
         have K3 := Lib.hid ((K2.out.alloc _).below hb3 (by have := K2.out.lt; simp; omega))
         obtain ⟨_, _, _, _, _, f0, f1, f2, f3, f4⟩ := K3.out.facts5
         have HB3 := Lib.hid hb3
         clear hb3)
      | (go_at_call 21
         (with_reducible refine (termV_leaf H2.out.1 _ w1 (H2.out.2.keep (fun b h => by have := G1.out.size; have h' : b < w.heap.size := h; have := HB.out.1.size; omega) (fun p hp => G1.out.cell (by have hp' : p.block < w.heap.size := hp; have := HB.out.1.size; omega)))).mono ?_)
         rintro e2 w2 ⟨v2, rfl, t2, hb2⟩
         obtain ⟨D2, e2', E2, f2', rfl, _⟩ := t2.form
         have G2 := Lib.hid (G1.out.trans (hb2.mono G1.out.size))
         have HZ2 := Lib.hid (show w.heap.size + 2 ≤ w2.heap.size by have := G2.out.size; have := HB.out.2.1; omega)
         have L2 := Lib.hid (show Below (w.heap.size + 1) W w2 from G2.out.mono (by have := HB.out.2.1; omega))
         have L3 := Lib.hid (L2.out.alloc (by have := HZ2.out; omega) (Obj.cells #[.int .i64 a.term.kind, .int .i64 a.term.index, .int .i64 a.term.type.kind, .slice D1 a.term.type.args.length e1', .slice E1 a.term.args.length f1', .int .i64 b.term.kind, .int .i64 b.term.index, .int .i64 b.term.type.kind, .slice D2 b.term.type.args.length e2', .slice E2 b.term.args.length f2'] 37))
         have K2 := Lib.hid (HB.out.2.2.below G2.out HB.out.2.2.lt)
         have HT2 := Lib.hid (And.intro t2 hb2)
         clear t2 hb2)
      | (go_at_call 21
         (with_reducible refine (termV_leaf H1.out.1 _ W.drew (H1.out.2.keep (fun b h => by have h' : b < w.heap.size := h; have := HB.out.1.size; have e : W.drew.heap.size = W.heap.size := rfl; show b < W.drew.heap.size; omega) (fun p hp => World.cell?_drew W p))).mono ?_)
         rintro e1 w1 ⟨v1, rfl, t1, hb1⟩
         obtain ⟨D1, e1', E1, f1', rfl, _⟩ := t1.form
         have G1 := Lib.hid (show Below W.heap.size W w1 from ((Below.refl _ W).drew).trans hb1)
         have L1 := Lib.hid (show Below (w.heap.size + 1) W w1 from G1.out.mono (by have := HB.out.2.1; omega))
         have HT1 := Lib.hid t1
         clear t1 hb1))
  go_wp2_with fail
  obtain ⟨z0, z1, z2, z3, z4⟩ := (K3.out.set5 (.int .i64 10) (.int .i64 0) (.int .i64 0) (.slice none 0 0) (.slice (some ⟨w2.heap.size, 0, none⟩) 2 2)).cells5
  refine bodyPost_ret (v := .agg #[.int .i64 10, .int .i64 0, .int .i64 0, .slice none 0 0, .slice (some ⟨w2.heap.size, 0, none⟩) 2 2]) (by simp [results, Try.results21, go_sem, z0, z1, z2, z3, z4]) rfl ?_
  have hz := HB.out.2.1
  have hs1 := G1.out.size
  have ew : W.drew.heap.size = W.heap.size := rfl
  have hz2 := HZ2.out
  refine term_endV ((HB.out.1.trans (G2.out.mono HB.out.1.size)).trans (((Below.refl w2.heap.size w2).alloc (Nat.le_refl _) _).trans (HB3.out.mono (by simp)) |>.mono (by omega))) (by have := HB3.out.size; simp at this; omega) ?_
  exact pair_tm HT2.out.2 (by omega) (HT1.out.keep (fun b h => ⟨by have := h.1; omega, h.2⟩) (fun _ _ => rfl)) (HT2.out.1.keep (fun b h => ⟨by omega, h.2⟩) (fun _ _ => rfl)) HB3.out

/-- The term of a made value. -/
theorem termV_made {T : Ty} {V : Va} (h : MadeV T V) (v : Value) (w : World) (hv : IsVa (· < w.heap.size) w V v) :
    Calls Try.prog 21 #[v] w (FreshT w V.term) := by
  rcases h with h | ⟨A, B, a, b, _, ha, hb, rfl⟩
  · exact termV_leaf h v w hv
  · rw [show (Va.mk 3 0 [] [a, b]).term = .mk 10 0 .zero [a.term, b.term] from by simp [Va.term, termsV]]
    exact termV_pair ha hb v w hv
end Go.Proofs.Ytieafbmabnohhaa
