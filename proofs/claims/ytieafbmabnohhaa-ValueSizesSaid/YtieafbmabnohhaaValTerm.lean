/- value.term of the values that are made. -/
import Derived.Test.YtieafbmabnohhaaValList
import Derived.Deep.RegionHeld3
namespace Go.Proofs.Ytieafbmabnohhaa
open Go.RowKit

theorem box_vt (w : World) (x0 x1 x2 x3 y0 y1 y2 y3 y4 : Value) : ∃ W, W = (w.alloc (Obj.cells #[x0, x1, x2, x3] 29)).alloc (Obj.cells #[y0, y1, y2, y3, y4] 37) ∧
    Below w.heap.size w W ∧ W.heap.size = w.heap.size + 2 ∧ Blk W w.heap.size 29 #[x0, x1, x2, x3] ∧ Blk W (w.heap.size + 1) 37 #[y0, y1, y2, y3, y4] := by
  have b1 := (Below.refl w.heap.size w).alloc (Nat.le_refl _) (Obj.cells #[x0, x1, x2, x3] 29)
  have k1 := Blk.new w 29 #[x0, x1, x2, x3]
  have z1 := World.size_alloc w (Obj.cells #[x0, x1, x2, x3] 29)
  generalize w.alloc (Obj.cells #[x0, x1, x2, x3] 29) = W1 at b1 z1 k1 ⊢
  have k2 := Blk.new W1 37 #[y0, y1, y2, y3, y4]
  rw [z1] at k2
  exact ⟨_, rfl, b1.alloc b1.size _, by simp [z1], k1.alloc _, k2⟩

/-- The result is stored. -/
theorem term_endV {w w2 : World} {T : Tm} {x0 x1 x2 x3 x4 : Value} (hb : Below w.heap.size w w2) (_hz : w.heap.size + 2 ≤ w2.heap.size) (ht : IsTm (fun b => w.heap.size + 2 ≤ b ∧ b < w2.heap.size) w2 T (.agg #[x0, x1, x2, x3, x4])) :
    FreshT w T (.returned (.agg #[x0, x1, x2, x3, x4])) (((((w2.setCell ⟨w.heap.size + 1, 0, none⟩ x0).setCell ⟨w.heap.size + 1, 1, none⟩ x1).setCell ⟨w.heap.size + 1, 2, none⟩ x2).setCell ⟨w.heap.size + 1, 3, none⟩ x3).setCell ⟨w.heap.size + 1, 4, none⟩ x4) := by
  have hg := only_set5 w2 (w.heap.size + 1) x0 x1 x2 x3 x4
  exact ⟨_, rfl, IsTm.keep (fun b h => ⟨by omega, Nat.lt_of_lt_of_le h.2 hg.size⟩) (fun p hp => World.cell?_of_block (hg.block p.block hp.2 (by simp; omega))) _ ht, hb.grown hg hb.size (fun k e => by cases e; omega)⟩

set_option maxHeartbeats 1000000 in
theorem termV_num (n : Nat) (hn : n ≤ 4096) (B A : Option Addr) (d c : Nat) (w : World) :
    Calls Try.prog 21 #[.agg #[.int .i64 1, .int .i64 n, .slice B 0 d, .slice A 0 c]] w (FreshT w (numTm n)) := by
  obtain ⟨W, hW, hbW, hz, k0, k1⟩ := box_vt w (.int .i64 1) (.int .i64 n) (.slice B 0 d) (.slice A 0 c) (.int .i64 0) (.int .i64 0) (.int .i64 0) (.slice none 0 0) (.slice none 0 0)
  obtain ⟨q0, q1, _⟩ := k0.facts4
  have HB := Lib.hid (And.intro hbW (And.intro hz k1))
  clear k0 k1 hz
  go_enter Try.func21, Try.ntmps21
  go_wp2_with fail
  rw [← hW]
  clear hW
  refine (numberV_any n W hn).mono ?_
  rintro e w2 ⟨v, rfl, ht, hb2⟩
  obtain ⟨B2, d2, A2, c2, rfl, _⟩ := ht.form
  have k2 := HB.out.2.2.below hb2 HB.out.2.2.lt
  obtain ⟨_, _, _, _, _, f0, f1, f2, f3, f4⟩ := k2.facts5
  have HT := Lib.hid ht
  clear ht
  go_wp2_with fail
  obtain ⟨z0, z1, z2, z3, z4⟩ := (k2.set5 (.int .i64 (numTm n).kind) (.int .i64 (numTm n).index) (.int .i64 (numTm n).type.kind) (.slice B2 (numTm n).type.args.length d2) (.slice A2 (numTm n).args.length c2)).cells5
  refine bodyPost_ret (v := .agg #[.int .i64 (numTm n).kind, .int .i64 (numTm n).index, .int .i64 (numTm n).type.kind, .slice B2 (numTm n).type.args.length d2, .slice A2 (numTm n).args.length c2]) (by simp [results, Try.results21, go_sem, z0, z1, z2, z3, z4]) rfl ?_
  have hz := HB.out.2.1
  exact term_endV (HB.out.1.trans (hb2.mono HB.out.1.size)) (by have := hb2.size; omega) (IsTm.keep (fun b h => ⟨by omega, h.2⟩) (fun _ _ => rfl) _ HT.out)

set_option maxHeartbeats 1000000 in
theorem termV_list (m : List Int) (hm : ∀ x ∈ m, 0 ≤ x ∧ x ≤ 4096) (hl : m.length ≤ 400000) (B A : Option Addr) (d c : Nat) (w : World) (hs : ZR.Sl (· < w.heap.size) w m (.slice B m.length d)) :
    Calls Try.prog 21 #[.agg #[.int .i64 2, .int .i64 0, .slice B m.length d, .slice A 0 c]] w (FreshT w (listTm m)) := by
  obtain ⟨W, hW, hbW, hz, k0, k1⟩ := box_vt w (.int .i64 2) (.int .i64 0) (.slice B m.length d) (.slice A 0 c) (.int .i64 0) (.int .i64 0) (.int .i64 0) (.slice none 0 0) (.slice none 0 0)
  obtain ⟨q0, _, q2, _⟩ := k0.facts4
  have HB := Lib.hid (And.intro hbW (And.intro hz k1))
  have HS := Lib.hid (And.intro hs hm)
  clear k0 k1 hz hs hm
  go_enter Try.func21, Try.ntmps21
  go_wp2_with fail
  rw [← hW]
  clear hW
  refine (listV_any m B d W HS.out.2 hl (HS.out.1.keep (fun b h => by have := HB.out.1.size; have h : b < w.heap.size := h; show b < W.heap.size; omega) (fun p hp => HB.out.1.cell hp))).mono ?_
  rintro e w2 ⟨v, rfl, ht, hb2⟩
  obtain ⟨B2, d2, A2, c2, rfl, _⟩ := ht.form
  have k2 := HB.out.2.2.below hb2 HB.out.2.2.lt
  obtain ⟨_, _, _, _, _, f0, f1, f2, f3, f4⟩ := k2.facts5
  have HT := Lib.hid ht
  clear ht
  go_wp2_with fail
  obtain ⟨z0, z1, z2, z3, z4⟩ := (k2.set5 (.int .i64 (listTm m).kind) (.int .i64 (listTm m).index) (.int .i64 (listTm m).type.kind) (.slice B2 (listTm m).type.args.length d2) (.slice A2 (listTm m).args.length c2)).cells5
  refine bodyPost_ret (v := .agg #[.int .i64 (listTm m).kind, .int .i64 (listTm m).index, .int .i64 (listTm m).type.kind, .slice B2 (listTm m).type.args.length d2, .slice A2 (listTm m).args.length c2]) (by simp [results, Try.results21, go_sem, z0, z1, z2, z3, z4]) rfl ?_
  have hz := HB.out.2.1
  exact term_endV (HB.out.1.trans (hb2.mono HB.out.1.size)) (by have := hb2.size; omega) (IsTm.keep (fun b h => ⟨by omega, h.2⟩) (fun _ _ => rfl) _ HT.out)

set_option maxHeartbeats 1000000 in
theorem termV_unit (B A : Option Addr) (d c : Nat) (w : World) :
    Calls Try.prog 21 #[.agg #[.int .i64 4, .int .i64 0, .slice B 0 d, .slice A 0 c]] w (FreshT w (.mk 13 0 .zero [])) := by
  obtain ⟨W, hW, hbW, hz, k0, k1⟩ := box_vt w (.int .i64 4) (.int .i64 0) (.slice B 0 d) (.slice A 0 c) (.int .i64 0) (.int .i64 0) (.int .i64 0) (.slice none 0 0) (.slice none 0 0)
  obtain ⟨q0, _⟩ := k0.facts4
  have HB := Lib.hid (And.intro hbW (And.intro hz k1))
  clear k0 k1 hz
  go_enter Try.func21, Try.ntmps21
  go_wp2_with fail
  rw [← hW]
  clear hW
  refine (node_any 13 none 0 0 W).mono ?_
  rintro e w2 ⟨rfl, hb2⟩
  have k2 := HB.out.2.2.below hb2 HB.out.2.2.lt
  obtain ⟨_, _, _, _, _, f0, f1, f2, f3, f4⟩ := k2.facts5
  go_wp2_with fail
  obtain ⟨z0, z1, z2, z3, z4⟩ := (k2.set5 (.int .i64 13) (.int .i64 0) (.int .i64 0) (.slice none 0 0) (.slice none 0 0)).cells5
  refine bodyPost_ret (v := .agg #[.int .i64 13, .int .i64 0, .int .i64 0, .slice none 0 0, .slice none 0 0]) (by simp [results, Try.results21, go_sem, z0, z1, z2, z3, z4]) rfl ?_
  have hz := HB.out.2.1
  exact term_endV (HB.out.1.trans (hb2.mono HB.out.1.size)) (by have := hb2.size; omega) (isTm_iff.2 ⟨rfl, rfl, IsTy.leaf _ _ _, Rep.Sl.nil _ _⟩)

/-- The term of a made value that is no pair. -/
theorem termV_leaf {T : Ty} {V : Va} (h : leafV T V) (v : Value) (w : World) (hv : IsVa (· < w.heap.size) w V v) :
    Calls Try.prog 21 #[v] w (FreshT w V.term) := by
  obtain ⟨B, d, A, c, rfl, hm, _⟩ := hv.parts
  rcases h with ⟨_, n, hn, rfl⟩ | ⟨_, m, hl, hb, rfl⟩ | ⟨_, rfl⟩
  · rw [show (Va.mk 1 n [] []).term = numTm n from by simp [Va.term]]
    exact termV_num n (by omega) B A d c w
  · rw [show (Va.mk 2 0 m []).term = listTm m from by simp [Va.term]]
    exact termV_list m (fun x hx => by have := hb x hx; omega) (by omega) B A d c w hm
  · rw [show (Va.mk 4 0 [] []).term = .mk 13 0 .zero [] from by simp [Va.term]]
    exact termV_unit B A d c w
end Go.Proofs.Ytieafbmabnohhaa
