/- The second form of Result. -/
import Derived.Test.YtajdekakegeidaaDoorRefCheck
import Derived.Test.YtajdekakegeidaaDoorResultDefs
import Derived.Deep.LoopGhost
namespace Go.Proofs.YtajdekakegeidaaDoor
open Go.RowKit

def RefResultR (T : Ty) (w : World) (e : Ending) (w' : World) : Prop :=
  Below w.heap.size w w' ∧ ∃ s v, e = .returned (.tuple #[s, v, .int .i64 0]) ∧ TyR.Sl (· < w'.heap.size) w' T.argsOf s ∧ IsTy (· < w'.heap.size) w' T.res v

def RefResultRel (w : World) (T : Ty) (k : Nat) (s : Value) (wr : World) : Prop :=
  ∃ U pre A c, Blk wr w.heap.size 25 #[.int .i64 U.kind, .slice A U.args.length c] ∧ IsTy (· < w.heap.size) wr U (.agg #[.int .i64 U.kind, .slice A U.args.length c]) ∧ U.ok = true ∧
    pre ++ U.argsOf = T.argsOf ∧ U.res = T.res ∧ TyR.Own (w.heap.size + 2 ≤ ·) (w.heap.size + 2) s pre wr ∧ U.nodes = k ∧ Below w.heap.size w wr ∧ Blk wr (w.heap.size + 1) 25 #[.int .i64 0, .slice none 0 0] ∧ pre.length + U.nodes ≤ 64

theorem refResult_after {w wr w1 : World} {X : Ty} {pre : List Ty} {u x y m0 m1 n0 n1 : Value} {xs : List Value} {a : Addr} {z5 t5 : Array Value} (_hbw : Below w.heap.size w wr) (hbx : Blk wr w.heap.size 25 t5) (hrb : Blk wr (w.heap.size + 1) 25 z5)
    (ha : a.block < w.heap.size) (g0 : wr.cell? a = some m0) (g1 : wr.cell? ⟨a.block, a.off + 1, none⟩ = some m1) (k0 : wr.cell? ⟨a.block, a.off + 2, none⟩ = some n0) (k1 : wr.cell? ⟨a.block, a.off + 2 + 1, none⟩ = some n1)
    (hlt : ∀ g, u.ownBlock = some g → w.heap.size + 2 ≤ g ∧ g < wr.heap.size) (hb1 : Below wr.heap.size wr w1)
    (hxc : TyR.Ch (fun b => w.heap.size + 2 ≤ b ∧ b < w1.heap.size ∧ u.ownBlock ≠ some b) w1 pre xs) (hx1 : IsTy (fun b => wr.heap.size ≤ b ∧ b < w1.heap.size) w1 X (.agg #[x, y])) :
    ∀ (v2 : Value) (w2 : World), (w1.alloc (.cells #[x, y] 25)).ownsRow (w.heap.size + 2) 25 2 u pre.length xs → w2.ownsRow (w.heap.size + 2) 25 2 v2 (pre.length + 1) (xs ++ [x, y]) → (w1.alloc (.cells #[x, y] 25)).grownBy w2 u.ownBlock →
      (v2.ownBlock = u.ownBlock ∨ v2.ownBlock = some (w1.alloc (.cells #[x, y] 25)).heap.size) →
      TyR.Own (w.heap.size + 2 ≤ ·) (w.heap.size + 2) v2 (pre ++ [X]) w2 ∧ wr.grownBy w2 u.ownBlock ∧ Blk w2 w.heap.size 25 t5 ∧ Blk w2 (w.heap.size + 1) 25 z5 ∧
        w2.cell? ⟨w.heap.size, 0, none⟩ = t5[0]? ∧ w2.cell? ⟨w.heap.size, 1, none⟩ = t5[1]? ∧ w2.frozen? ⟨w.heap.size, 0, none⟩ = false ∧ w2.frozen? ⟨w.heap.size, 1, none⟩ = false ∧
        w2.cell? a = some m0 ∧ w2.cell? ⟨a.block, a.off + 1, none⟩ = some m1 ∧ w2.cell? ⟨a.block, a.off + 2, none⟩ = some n0 ∧ w2.cell? ⟨a.block, a.off + 2 + 1, none⟩ = some n1 := by
  intro v2 w2 hxo hown2 hg2 hat2
  have hs1 := hb1.size
  have hsl := hrb.lt
  have hgr : wr.grownBy w2 u.ownBlock := only_trans (below_only hb1 (Nat.le_refl _) _) (only_trans (World.grownBy_alloc w1 _ _) hg2)
  have ne : ∀ b, b < w.heap.size + 2 → some b ≠ u.ownBlock := fun b hb e => by have := (hlt b e.symm).1; omega
  have hbx2 := hbx.grown hgr (ne _ (by omega))
  have hrb2 := hrb.grown hgr (ne _ (by omega))
  have far : ∀ p : Addr, p.block < w.heap.size → w2.cell? p = wr.cell? p := fun p hp => World.cell?_of_block (hgr.block p.block (by omega) (ne _ (by omega)))
  refine ⟨?_, hgr, hbx2, hrb2, hbx2.cell 0, hbx2.cell 1, hbx2.frozen 0, hbx2.frozen 1, (far _ ha).trans g0, (far ⟨a.block, _, none⟩ ha).trans g1, (far ⟨a.block, _, none⟩ ha).trans k0, (far ⟨a.block, _, none⟩ ha).trans k1⟩
  refine Rep.Own.more (R := TyR) (m := [X]) hxo (hxc.keep (fun b hb => ⟨hb.1, by have := hb.2.1; simp; omega, hb.2.2⟩) (fun p hp => World.cell?_alloc_lt _ _ _ hp.2.1)) (ty_one (IsTy.keep (fun b hb => ⟨by omega, by simp; omega, fun e => by have := (hlt b e).2; omega⟩) (fun p hp => World.cell?_alloc_lt _ _ _ hp.2) _ hx1)) hown2 hg2 hat2

set_option maxRecDepth 100000 in
set_option maxHeartbeats 4000000 in
theorem refResult_any (T : Ty) (v : Value) (w : World) (he : T.err = 0) (hT : IsTy (· < w.heap.size) w T v) :
    Calls Tryd.prog 30 #[v] w (RefResultR T w) := by
  obtain ⟨A, c, rfl⟩ := hT.form
  obtain ⟨hz, hb, k0, k1⟩ := box2_facts w (.int .i64 T.kind) (.slice A T.args.length c)
  obtain ⟨hok, h64⟩ := err_zero.1 he
  have HE := Lib.hid he
  clear he
  go_enter Tryd.func30, Tryd.ntmps30
  go_wp2_with fail
  generalize (w.alloc (Obj.cells #[Value.int IntKind.i64 T.kind, Value.slice A T.args.length c] 25)).alloc (Obj.cells #[Value.int IntKind.i64 0, .slice none 0 0] 25) = W0 at hz hb k0 k1 ⊢
  have hT0 := hT.boxed hb
  refine (refCheck_any T _ W0 (by omega) hT0).mono ?_
  rintro e w' ⟨rfl, hb2⟩
  rw [HE.out]
  have hw2 : Below w.heap.size w w' := hb.trans (hb2.mono (by omega))
  have h0 : RefResultRel w T T.nodes (.slice none 0 0) w' := ⟨T, [], A, c, k0.below hb2 k0.lt, IsTy.keep (fun b h => h) (fun p hp => hw2.cell hp) _ hT, hok, rfl, rfl, Rep.Own.nil _ _ _, rfl, hw2, k1.below hb2 (by omega), by simpa using h64⟩
  have HT0 := Lib.hid h0
  clear hz h0 hT hT0 hok h64 k0 k1 hb hb2 hw2
  go_wp2_with fail
  go_loopg [6] T.nodes (fun k s wr => RefResultRel w T k s wr)
  case atStart => exact HT0.out
  case round =>
    obtain ⟨U, pre, A1, c1, hbx, hU, hUok, hargs, hres, hown, hk, hbw, hrb, hlen⟩ := hrel
    obtain ⟨q0, q1, f0, f1⟩ := hbx.facts2
    have HA := Lib.hid hargs
    have HR := Lib.hid hres
    have HK := Lib.hid hk
    have HO := Lib.hid hown
    clear hargs hres hk hown
    by_cases h4 : U.kind = 4
    · rcases Ty.ok_cases hUok with ⟨k, hk', rfl⟩ | ⟨k, X, Y, hk', rfl, hX, hY⟩
      · simp only [Ty.kind] at h4; omega
      · simp only [Ty.kind] at h4
        subst h4
        simp only [kind_mk_, args_mk_, List.length_cons, List.length_nil, Nat.reduceAdd] at hbx hU q0 q1
        obtain ⟨a, D, d, E, e, rfl, ha, g0, g1, k0', k1', gX, gY⟩ := hU.two
        have hXn : X.nodes ≤ 1000 := by simp only [Ty.nodes, nodesAll] at hlen; omega
        have hbs := hbw.size
        have hsz1 := hrb.lt
        have HX := Lib.hid (And.intro gX gY)
        have HU := Lib.hid hU
        clear gX gY hU
        go_wp2_with fail
        refine (copy_any 1000 X _ wr hXn (by omega) (IsTy.keep (fun b h => Nat.lt_of_lt_of_le h hbs) (fun _ _ => rfl) _ HX.out.1)).mono ?_
        rintro e w1 ⟨x1, rfl, hx1, hb1⟩
        obtain ⟨B1, c2, rfl⟩ := hx1.form
        have hs1 := hb1.size
        obtain ⟨xs, hxo, hxc⟩ := HO.out.below hb1
        have hxo1 := hxo.alloc (Obj.cells #[.int .i64 X.kind, .slice B1 X.args.length c2] 25)
        obtain ⟨i0, hi, hz0, hz1, hz2⟩ := info_parts info_type
        have hlt := HO.out.lt
        have AFTER := Lib.hid (refResult_after (X := X) hbw hbx hrb ha g0 g1 k0' k1' hlt hb1 hxc hx1)
        have HLT := Lib.hid hlt
        clear hxc g0 g1 k0' k1' hlt
        go_wp2_with (at_builtin; go_loud (refine wpList_append_own_at _ rfl _ _ 23 rfl (w.heap.size + 2) 25 i0 _ 2 32 Tryd.underlying23 hi hz0 hz1 hz2 rfl (by decide) u6 pre.length xs rfl hxo1 ⟨w1.heap.size, 0, none⟩ 1 1 [_, _] rfl rfl (cells_new _ _ _) (by simp [Value.oneCell']) (by simp only [maxLen]; omega) (by omega) (by simp; omega) ?_); intro v2 w2 hown2 hg2 hnil2 hat2
                     obtain ⟨hown3, hgr, hbx2, hrb2, p0, p1, p2, p3, p4, p5, p6, p7⟩ := AFTER.out v2 w2 hxo1 hown2 hg2 hat2)
        go_roundg Y.nodes
        case rel =>
          have hg4 := only_set2 w2 w.heap.size (.int .i64 Y.kind) (.slice E Y.args.length e)
          have hbwF : Below w.heap.size w w2 := hbw.grown hgr hbs (fun k e => by have := (HLT.out k e).1; omega)
          refine ⟨Y, pre ++ [X], E, e, hbx2.set2 _ _, IsTy.keep (fun b h => h) (fun p hp => (World.cell?_of_block (hg4.block p.block (by have := hbwF.size; omega) (by simp; omega))).trans ((hbwF.cell hp).trans (hbw.cell hp).symm)) _ HX.out.2, hY, ?_, ?_, ?_, rfl, ?_, hrb2.grown hg4 (by simp), ?_⟩
          · rw [← HA.out, argsOf_fun]; simp
          · rw [← HR.out, res_fun]
          · exact hown3.far hg4 (by omega) (by omega)
          · exact hbwF.grown hg4 hbwF.size (fun k e => by cases e; exact Nat.le_refl _)
          · simp only [Ty.nodes, nodesAll] at hlen
            simp; omega
        case measure => have := HK.out; simp only [Ty.nodes, nodesAll] at this; omega
    · have e4 : (U.kind == 4) = false := by simp [h4]
      have hn := argsOf_other hUok h4
      have HN := Lib.hid hn
      have HU := Lib.hid hU
      have hbs := hbw.size
      have hUn : U.nodes ≤ 1000 := by omega
      obtain ⟨A3, c3, rfl⟩ := HO.out.form
      clear hn hU h4
      go_wp2_with fail
      refine (copy_any 1000 U _ wr hUn (by omega) (IsTy.keep (fun b h => Nat.lt_of_lt_of_le h hbs) (fun _ _ => rfl) _ HU.out)).mono ?_
      rintro e w1 ⟨x1, rfl, hx1, hb1⟩
      obtain ⟨B1, c2, rfl⟩ := hx1.form
      have k1 := hrb.below hb1 hrb.lt
      obtain ⟨r0, r1, g0, g1⟩ := k1.facts2
      have HX := Lib.hid hx1
      clear hx1
      go_wp2_with fail
      obtain ⟨z0, z1, _, _⟩ := (k1.set2 (.int .i64 U.kind) (.slice B1 U.args.length c2)).facts2
      refine bodyPost_ret (v := .tuple #[.slice A3 pre.length c3, .agg #[.int .i64 U.kind, .slice B1 U.args.length c2], .int .i64 0]) (by simp [results, Tryd.results30, go_sem, z0, z1]) rfl ?_
      have hg4 := only_set2 w1 (w.heap.size + 1) (.int .i64 U.kind) (.slice B1 U.args.length c2)
      have hsl := hrb.lt
      refine ⟨(hbw.trans (hb1.mono hbs)).grown hg4 (by have := hb1.size; omega) (fun k e => by cases e; omega), _, _, rfl, ?_, ?_⟩
      · have e0 : pre = T.argsOf := by rw [← HA.out, HN.out.1, List.append_nil]
        rw [← e0]
        exact ((HO.out.below hb1).far hg4 (by omega) (by omega)).sl.keep (fun b h => h.2) (fun _ _ => rfl)
      · rw [← HR.out, HN.out.2]
        exact IsTy.keep (fun b h => Nat.lt_of_lt_of_le h.2 hg4.size) (fun p hp => World.cell?_of_block (hg4.block p.block hp.2 (by have := hp.1; simp; omega))) _ HX.out
end Go.Proofs.YtajdekakegeidaaDoor
