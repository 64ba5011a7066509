/- subst.Lower, where the variable does not stand; what lifting does to the free variables. -/
import Derived.Test.YtdhidofmojaheaaDoorPackSubst
import Derived.Test.YtdhidofmojaheaaDoorLiftMath
import Derived.Test.YtdhidofmojaheaaDoorUses
namespace Go.Proofs.YtdhidofmojaheaaDoor
open Go.RowKit

theorem two_boxes (w : World) (c1 c2 : Array Value) (t1 t2 : TypeId) : ∃ W, W = (w.alloc (.cells c1 t1)).alloc (.cells c2 t2) ∧ Below w.heap.size w W ∧ W.heap.size = w.heap.size + 2 ∧ Blk W w.heap.size t1 c1 ∧ Blk W (w.heap.size + 1) t2 c2 := by
  obtain ⟨b1, z1, k1⟩ := new_blk (Below.refl w.heap.size w) (Nat.le_refl _) c1 t1
  generalize w.alloc (.cells c1 t1) = W1 at b1 z1 k1 ⊢
  obtain ⟨b2, z2, k2⟩ := new_blk b1 b1.size c2 t2
  rw [z1] at k2 z2
  exact ⟨_, rfl, b2, by omega, k1.alloc _, k2⟩
/-- What stands for no term. -/
def noTm : Tm := .mk 0 0 .zero []
theorem isTm_no (S : Nat → Prop) (w : World) : IsTm S w noTm (.agg #[.int .i64 0, .int .i64 0, .int .i64 0, .slice none 0 0, .slice none 0 0]) :=
  isTm_iff.2 ⟨rfl, rfl, (show IsTy S w (.mk 0 []) _ from by unfold IsTy; exact ⟨none, 0, rfl, fun h => (h rfl).elim⟩), ⟨none, 0, rfl, fun h => (h rfl).elim⟩⟩

set_option maxRecDepth 100000 in
set_option maxHeartbeats 4000000 in
theorem lowerTop_any (t : Tm) (v : Value) (m : Nat) (S : Nat → Prop) (w : World) (hb : t.bulk ≤ 390000) (he : t.err = 0) (hlow : t.low 536870912 = true) (hm : m ≤ 4096) (hocc : t.occ m = 0) (htab : Tab w) (hS : ∀ b, S b → b < w.heap.size) (hT : IsTm S w t v) :
    Calls Tryd.prog 28 #[v, .int .i64 m] w (GivesTm S (t.put m noTm) w) := by
  obtain ⟨B, d, A, c, rfl, _⟩ := IsTm.form hT
  have hok := (errT_zero.1 he).1
  have HOK := Lib.hid (And.intro hok (And.intro hlow (And.intro he hocc)))
  clear hok hlow he hocc
  go_enter Tryd.func28, Tryd.ntmps28
  go_upto_region 1 with fail
  obtain ⟨W, hW, bW, zW, k0, k1⟩ := two_boxes w #[.int .i64 t.kind, .int .i64 t.index, .int .i64 t.type.kind, .slice B t.type.args.length d, .slice A t.args.length c] #[.int .i64 0, .int .i64 0, .int .i64 0, .slice none 0 0, .slice none 0 0] 34 34
  rw [← hW]
  have HB := Lib.hid (And.intro bW zW)
  have HK := Lib.hid (And.intro k0 k1)
  have HS := Lib.hid hS
  have HT := Lib.hid (IsTm.keep (fun _ h => h) (fun r hr => bW.cell (hS _ hr)) _ hT)
  have HTab := Lib.hid (htab.after bW)
  obtain ⟨r0, r1, r2, r3, r4, _, _, _, _, _⟩ := k0.facts5
  clear hW bW zW k0 k1 hT hS htab
  go_wp2_with fail
  refine (checkT_ok (t := t) (w := W) HOK.out.2.2.1 (by omega) HTab.out (IsTm.keep (fun b h => Nat.lt_of_lt_of_le (HS.out b h) HB.out.1.size) (fun _ _ => rfl) _ HT.out)).mono ?_
  rintro e w1 ⟨rfl, hc1⟩
  have k0' := HK.out.1.below hc1 HK.out.1.lt
  obtain ⟨s0, s1, s2, s3, s4, _, _, _, _, _⟩ := k0'.facts5
  have HC1 := Lib.hid hc1
  clear hc1 k0' r0 r1 r2 r3 r4
  go_wp2_with fail
  refine (within_ok m w1 (by omega) (by omega)).mono ?_
  rintro e w1' ⟨rfl, rfl⟩
  go_wp2_with fail
  have T1 := Lib.hid (IsTm.keep (S' := S) (fun _ h => h) (fun p hp => HC1.out.cell (Nat.lt_of_lt_of_le (HS.out _ hp) HB.out.1.size)) _ HT.out)
  refine (occurs_any t _ m w1 (by omega) HOK.out.1 (low_mono (by omega) t HOK.out.2.1) (by omega) (IsTm.keep (fun b h => Nat.lt_of_lt_of_le (HS.out b h) (Nat.le_trans HB.out.1.size HC1.out.size)) (fun _ _ => rfl) _ T1.out)).mono ?_
  rintro e w2 ⟨he2, hc2⟩
  rw [HOK.out.2.2.2] at he2
  subst he2
  have HC2 := Lib.hid (show Below W.heap.size W w2 from HC1.out.trans (hc2.mono HC1.out.size))
  have k0' := HK.out.1.below HC2.out HK.out.1.lt
  obtain ⟨r0, r1, r2, r3, r4, _, _, _, _, _⟩ := k0'.facts5
  clear hc2 k0' s0 s1 s2 s3 s4
  go_wp2_with fail
  refine (put_when t noTm _ _ m S w2 (by omega) HOK.out.1 (low_mono (by omega) t HOK.out.2.1) (fun h => (h HOK.out.2.2.2).elim) (by omega) (fun b h => Nat.lt_of_lt_of_le (HS.out b h) (Nat.le_trans HB.out.1.size HC2.out.size)) (IsTm.keep (fun _ h => h) (fun p hp => HC2.out.cell (Nat.lt_of_lt_of_le (HS.out _ hp) HB.out.1.size)) _ HT.out) (isTm_no _ _)).mono ?_
  rintro e w3 ⟨v', rfl, ht, hb'⟩
  obtain ⟨B6, e6, A6, c6, rfl, _⟩ := IsTm.form ht
  have hz := HB.out.2
  have hzc := HC2.out.size
  have HC3 := Lib.hid (show Below W.heap.size W w3 from HC2.out.trans (hb'.mono HC2.out.size))
  have k1' := HK.out.2.below HC3.out HK.out.2.lt
  obtain ⟨_, _, _, _, _, f0, f1, f2, f3, f4⟩ := k1'.facts5
  have HE := Lib.hid (And.intro k1' ht)
  clear k1' ht hb' r0 r1 r2 r3 r4
  generalize hP : t.put m noTm = P at *
  go_wp2_with fail
  obtain ⟨y0, y1, y2, y3, y4⟩ := (HE.out.1.set5 (.int .i64 P.kind) (.int .i64 P.index) (.int .i64 P.type.kind) (.slice B6 P.type.args.length e6) (.slice A6 P.args.length c6)).cells5
  have hg := only_set5 w3 (w.heap.size + 1) (.int .i64 P.kind) (.int .i64 P.index) (.int .i64 P.type.kind) (.slice B6 P.type.args.length e6) (.slice A6 P.args.length c6)
  exact bodyPost_ret (v := .tuple #[.agg #[.int .i64 P.kind, .int .i64 P.index, .int .i64 P.type.kind, .slice B6 P.type.args.length e6, .slice A6 P.args.length c6], .int .i64 0]) (by simp [results, Tryd.results28, go_sem, y0, y1, y2, y3, y4]) rfl
    (gives_end HS.out (by omega) (HB.out.1.trans (HC3.out.mono HB.out.1.size)) hg (lo := w2.heap.size) (by omega) HE.out.2)
end Go.Proofs.YtdhidofmojaheaaDoor
