/- The walk of the law on closed normal terms. -/
import Derived.Test.YtdbkphgamkeboaaDoorPackCanon
namespace Go.Proofs.YtdbkphgamkeboaaDoor
open Go.RowKit

set_option maxRecDepth 100000 in
set_option maxHeartbeats 4000000 in
theorem closesLaw_small (A : Option Addr) (len cap : Nat) (w : World) (htab : Tab w) (hlen : len ≤ 500) (hA : ∀ i, i < len → ∃ a x, A = some a ∧ a.block < w.heap.size ∧ w.cell? (a.add i) = some (.int .i64 x)) :
    Calls Tryd.prog 7 #[.slice A len cap] w fun e w' => e = .returned (.bool true) ∧ Below w.heap.size w w' := by
  have hA' := Lib.hid hA
  have HTab := Lib.hid htab
  clear hA htab
  have e500 : decide ((len : Int) ≤ 500) = true := by simp; omega
  go_enter Tryd.func7, Tryd.ntmps7
  go_wp2_with fail
  refine (saneR_any w HTab.out).mono ?_
  rintro e w1 ⟨rfl, hb1⟩
  go_wp2_with fail
  refine (few_any A len cap w1 (by simp only [maxLen]; omega)).mono ?_
  rintro e w1' ⟨rfl, rfl⟩
  rw [e500]
  go_wp2_with fail
  have hA1 : ∀ i, i < len → ∃ a x, A = some a ∧ a.block < w1.heap.size ∧ w1.cell? (a.add i) = some (.int .i64 x) := fun i hi => by
    obtain ⟨a, x, h1, h2, h3⟩ := hA'.out i hi
    exact ⟨a, x, h1, Nat.lt_of_lt_of_le h2 hb1.size, (hb1.cell (by rw [add_block]; exact h2)).trans h3⟩
  refine (new_any A len cap w1 hlen hA1).mono ?_
  rintro e w2 ⟨rfl, hw2⟩
  have hd2 := new_deck A len cap w1 hlen hA1
  rw [hw2] at hd2
  have b_w2 : Below w.heap.size w w2 := by rw [← hw2]; exact hb1.alloc hb1.size _
  have hgw : w.heap.size ≤ w1.heap.size := hb1.size
  clear hw2 hA1 hb1
  generalize w1.heap.size = gg at hd2 hgw ⊢
  have HD2 := Lib.hid hd2
  clear hd2
  go_wp2_with fail
  refine (closed_any gg w2 HD2.out).mono ?_
  rintro e w3 ⟨x, S, vx, vs, rfl, mX, okS, nS, tX, tyS, hd3, ht3⟩
  obtain ⟨Bx, ex, Ax, cx, rfl, _⟩ := IsTm.form tX
  obtain ⟨As, cs, rfl⟩ := tyS.form
  have b_w3 : Below w.heap.size w w3 := b_w2.trans (ht3.toBelow (fun k hk e => by omega) b_w2.size)
  have hxe := made_err6 mX (by omega)
  have hxl := made_low6 mX (by simp) (by omega)
  have hxb := mX.bulk_le (by omega)
  have HX := Lib.hid (And.intro hxe hxl)
  have HXT := Lib.hid (And.intro mX.typ tyS)
  have TX := Lib.hid (show IsTm (· < w3.heap.size) w3 x _ from IsTm.keep (fun b h => h.2) (fun _ _ => rfl) _ tX)
  clear HD2 mX okS nS tX tyS hd3 ht3 b_w2 hxe hxl
  go_upto_region 6 with fail
  obtain ⟨W, hW, b2, z2, k0, k1⟩ := alloc2_facts w3 #[.int .i64 x.kind, .int .i64 x.index, .int .i64 x.type.kind, .slice Bx x.type.args.length ex, .slice Ax x.args.length cx] #[.int .i64 S.kind, .slice As S.args.length cs] 34 30
  rw [← hW]
  have BW := Lib.hid (b_w3.trans (b2.mono b_w3.size))
  have KX := Lib.hid k0
  have TW := Lib.hid (show IsTm (· < W.heap.size) W x _ from TX.out.keep (fun b h => Nat.lt_of_lt_of_le h b2.size) (fun p hp => b2.cell hp))
  have HN := Lib.hid fun (lim : Nat) (w' : World) (h : Below W.heap.size W w') (hl : lim ≤ 1000) => normal_any x _ (· < W.heap.size) lim w' (by omega) HX.out.1 HX.out.2 hl (HTab.out.after (BW.out.trans (h.mono BW.out.size))) (fun b hb => Nat.lt_of_lt_of_le hb h.size) (IsTm.keep (fun _ hb => hb) (fun p hp => h.cell hp) _ TW.out)
  have KS := Lib.hid k1
  have TS := Lib.hid (show IsTy (· < W.heap.size) W S _ from IsTy.keep (fun b h => Nat.lt_of_lt_of_le h.2 b2.size) (fun p hp => b2.cell hp.2) _ HXT.out.2)
  have HC := Lib.hid fun (w' : World) (h : Below W.heap.size W w') => (KX.out.below h KX.out.lt).facts5
  obtain ⟨r0, r1, r2, r3, r4, _, _, _, _, _⟩ := HC.out W (Below.refl _ _)
  clear hW b2 k0 k1 b_w3 TX
  go_wp2_with fail
  refine (HN.out 400 W (Below.refl _ _) (by omega)).mono ?_
  rintro e w4 ⟨b4, h4⟩
  have B4 := Lib.hid b4
  have hz4 := b4.size
  clear r0 r1 r2 r3 r4 b4
  rcases h4 with ⟨u1, m, v1, rfl, t1, hE⟩ | ⟨_, _, er, her, rfl, _⟩
  · obtain ⟨B1, d1, A1, c1, rfl, _⟩ := IsTm.form t1
    have hm3 := hE.2.1
    have hok1 := hE.1.ok (errT_zero.1 HX.out.1).1
    have hcan := progress u1.size u1 (Nat.le_refl _) hok1 (hE.1.typ (errT_zero.1 HX.out.1).1 HXT.out.1) hE.done
    have HCAN := Lib.hid hcan
    have T4 := Lib.hid (show IsTm (· < w4.heap.size) w4 u1 _ from IsTm.keep (fun b h => h.2) (fun _ _ => rfl) _ t1)
    have hm0 : decide ((m : Int) < 0) = false := decide_eq_false (by omega)
    have hm1 : decide ((m : Int) > 400) = false := decide_eq_false (by omega)
    clear t1 hE hok1 hcan
    go_upto_region 9 with fail
    obtain ⟨b5, z5, k5⟩ := new_blk B4.out B4.out.size #[.int .i64 u1.kind, .int .i64 u1.index, .int .i64 u1.type.kind, .slice B1 u1.type.args.length d1, .slice A1 u1.args.length c1] 34
    have T5 := Lib.hid (show IsTm (· < w4.heap.size) _ u1 _ from T4.out.keep (S' := (· < w4.heap.size)) (w' := w4.alloc (Obj.cells #[.int .i64 u1.kind, .int .i64 u1.index, .int .i64 u1.type.kind, .slice B1 u1.type.args.length d1, .slice A1 u1.args.length c1] 34)) (fun b h => h) (fun p hp => World.cell?_alloc_lt _ _ _ hp))
    generalize w4.alloc (Obj.cells #[.int .i64 u1.kind, .int .i64 u1.index, .int .i64 u1.type.kind, .slice B1 u1.type.args.length d1, .slice A1 u1.args.length c1] 34) = W5 at b5 z5 k5 T5 ⊢
    have B5 := Lib.hid b5
    obtain ⟨r0, r1, r2, r3, r4, _, _, _, _, _⟩ := k5.facts5
    obtain ⟨s0, s1, _, _⟩ := (KS.out.below b5 KS.out.lt).facts2
    clear b5 k5 T4
    go_wp2_with fail
    refine (canonical_any HCAN.out _ _ W5 (T5.out.keep (fun b h => by have h' : b < w4.heap.size := h; show b < W5.heap.size; omega) (fun _ _ => rfl)) (TS.out.keep (fun b h => by have h' : b < W.heap.size := h; show b < W5.heap.size; omega) (fun p hp => B5.out.cell hp))).mono ?_
    rintro e w6 ⟨rfl, b6⟩
    have B6 := Lib.hid (BW.out.trans ((B5.out.trans (b6.mono B5.out.size)).mono BW.out.size))
    clear b6
    go_wp2_with fail
    go_ret
    exact ⟨rfl, B6.out⟩
  · have B5 := Lib.hid (BW.out.trans (B4.out.mono BW.out.size))
    rcases her with rfl | rfl
    all_goals
      go_wp2_with fail
      go_ret
      exact ⟨rfl, B5.out.alloc B5.out.size _⟩
end Go.Proofs.YtdbkphgamkeboaaDoor
