/- The walk of the law on more steps, and fewer. -/
import Derived.Test.YtdbkphgamkeboaaDoorPackFin
import Derived.Test.YtdbkphgamkeboaaDoorPackWalk
namespace Go.Proofs.YtdbkphgamkeboaaDoor
open Go.RowKit

theorem made_low6 {G : List Ty} {t : Ty} {a p : Nat} {T : Tm} (h : Made G t a p T) (hG : G.length ≤ 1000) (ha : a ≤ 4096) : T.low 1000000 = true :=
  low_mono (by have := h.size; omega) T (typ_low T G h.ok h.typ)
theorem made_err6 {G : List Ty} {t : Ty} {a p : Nat} {T : Tm} (h : Made G t a p T) (ha : a ≤ 4096) : T.err = 0 := errT_zero.2 ⟨h.ok, by have := h.size; omega⟩
/-- A term that is normal after m steps: what Normal returns for other limits. -/
theorem normal_again {x u : Tm} {m lim : Nat} (hs : Steps 0 (fun _ => false) m x u) (hu : u.next = none) {S : Nat → Prop} {w w' : World} {e : Ending} (h : NormalR S lim x w e w') :
    Below w.heap.size w w' ∧ ((m ≤ lim ∧ ∃ v', e = .returned (.tuple #[v', .int .i64 m, .int .i64 0]) ∧ IsTm (fun b => (S b ∨ w.heap.size ≤ b) ∧ b < w'.heap.size) w' u v') ∨
      (lim < m ∧ e = .returned (.tuple #[.agg #[.int .i64 0, .int .i64 0, .int .i64 0, .slice none 0 0, .slice none 0 0], .int .i64 0, .int .i64 5]))) := by
  obtain ⟨hb, h⟩ := h
  refine ⟨hb, ?_⟩
  rcases h with ⟨u2, m2, v', rfl, ht, hE⟩ | ⟨u2, m2, er, her, rfl, hE⟩
  · rcases hE.unique hs hu with ⟨_, rfl, rfl⟩ | ⟨h, _⟩
    · exact .inl ⟨hE.2.1, v', rfl, ht⟩
    · exact absurd h (by decide)
  · rcases hE.unique hs hu with ⟨h, _⟩ | ⟨rfl, _, hl⟩
    · rcases her with e | e <;> rw [e] at h <;> exact absurd h (by decide)
    · exact .inr ⟨hl, rfl⟩
theorem Ends.done {B lim n : Nat} {t u : Tm} (h : Ends B (fun _ => false) lim n t u 0) : u.next = none := by
  rcases h.2.2 with ⟨_, h | h⟩ | ⟨_, h | h⟩
  · exact h
  · cases h
  · exact absurd h.1 (by decide)
  · exact absurd h.1 (by decide)

set_option maxRecDepth 100000 in
set_option maxHeartbeats 4000000 in
theorem addsLaw_small (A : Option Addr) (len cap : Nat) (u : Int) (w : World) (htab : Tab w) (hlen : len ≤ 500) (hu : 0 ≤ u ∧ u < 256) (hA : ∀ i, i < len → ∃ a x, A = some a ∧ a.block < w.heap.size ∧ w.cell? (a.add i) = some (.int .i64 x)) :
    Calls Tryd.prog 8 #[.slice A len cap, .int .u8 u] w fun e w' => e = .returned (.bool true) ∧ Below w.heap.size w w' := by
  obtain ⟨b, rfl⟩ : ∃ b : Nat, u = b := ⟨u.toNat, by omega⟩
  have hA' := Lib.hid hA
  have HTab := Lib.hid htab
  clear hA htab
  have e500 : decide ((len : Int) ≤ 500) = true := by simp; omega
  go_enter Tryd.func8, Tryd.ntmps8
  go_wp2_with fail
  refine (saneR_any w HTab.out).mono ?_
  rintro e w1 ⟨rfl, hb1⟩
  go_wp2_with fail
  refine (few_any A len cap w1 (by simp only [maxLen]; omega)).mono ?_
  rintro e w1' ⟨rfl, rfl⟩
  rw [e500]
  go_wp2_with fail
  have hA1 : ∀ i, i < len → ∃ a x, A = some a ∧ a.block < w1.heap.size ∧ w1.cell? (a.add i) = some (.int .i64 x) := fun i hi => by
    obtain ⟨a, x, h1, h2, h3⟩ := hA'.out i hi
    exact ⟨a, x, h1, Nat.lt_of_lt_of_le h2 hb1.size, (hb1.cell (by rw [add_block]; exact h2)).trans h3⟩
  refine (new_any A len cap w1 hlen hA1).mono ?_
  rintro e w2 ⟨rfl, hw2⟩
  have hd2 := new_deck A len cap w1 hlen hA1
  rw [hw2] at hd2
  have b_w2 : Below w.heap.size w w2 := by rw [← hw2]; exact hb1.alloc hb1.size _
  have hgw : w.heap.size ≤ w1.heap.size := hb1.size
  clear hw2 hA1 hb1
  generalize w1.heap.size = gg at hd2 hgw ⊢
  have HD2 := Lib.hid hd2
  clear hd2
  go_wp2_with fail
  refine (closed_any gg w2 HD2.out).mono ?_
  rintro e w3 ⟨x, S, vx, vs, rfl, mX, okS, nS, tX, tyS, hd3, ht3⟩
  obtain ⟨Bx, ex, Ax, cx, rfl, _⟩ := IsTm.form tX
  obtain ⟨As, cs, rfl⟩ := tyS.form
  have b_w3 : Below w.heap.size w w3 := b_w2.trans (ht3.toBelow (fun k hk e => by omega) b_w2.size)
  have hxe := made_err6 mX (by omega)
  have hxl := made_low6 mX (by simp) (by omega)
  have hxb := mX.bulk_le (by omega)
  have HX := Lib.hid (And.intro hxe hxl)
  have TX := Lib.hid (show IsTm (· < w3.heap.size) w3 x _ from IsTm.keep (fun b h => h.2) (fun _ _ => rfl) _ tX)
  clear HD2 mX okS nS tX tyS hd3 ht3 b_w2 hxe hxl
  go_upto_region 6 with fail
  obtain ⟨W, hW, b2, z2, k0, k1⟩ := alloc2_facts w3 #[.int .i64 x.kind, .int .i64 x.index, .int .i64 x.type.kind, .slice Bx x.type.args.length ex, .slice Ax x.args.length cx] #[.int .i64 S.kind, .slice As S.args.length cs] 34 30
  rw [← hW]
  have BW := Lib.hid (b_w3.trans (b2.mono b_w3.size))
  have KX := Lib.hid k0
  have TW := Lib.hid (show IsTm (· < W.heap.size) W x _ from TX.out.keep (fun b h => Nat.lt_of_lt_of_le h b2.size) (fun p hp => b2.cell hp))
  have HN := Lib.hid fun (lim : Nat) (w' : World) (h : Below W.heap.size W w') (hl : lim ≤ 1000) => normal_any x _ (· < W.heap.size) lim w' (by omega) HX.out.1 HX.out.2 hl (HTab.out.after (BW.out.trans (h.mono BW.out.size))) (fun b hb => Nat.lt_of_lt_of_le hb h.size) (IsTm.keep (fun _ hb => hb) (fun p hp => h.cell hp) _ TW.out)
  have HNN := Lib.hid fun (lim : Int) (w' : World) (h : Below W.heap.size W w') (hl : lim < 0) => normal_neg x _ lim w' (by omega) HX.out.1 HX.out.2 hl (HTab.out.after (BW.out.trans (h.mono BW.out.size))) (IsTm.keep (fun b hb => Nat.lt_of_lt_of_le hb h.size) (fun p hp => h.cell hp) _ TW.out)
  have HC := Lib.hid fun (w' : World) (h : Below W.heap.size W w') => (KX.out.below h KX.out.lt).facts5
  obtain ⟨r0, r1, r2, r3, r4, _, _, _, _, _⟩ := HC.out W (Below.refl _ _)
  clear hW b2 k0 k1 b_w3 TX
  go_wp2_with fail
  refine (HN.out 300 W (Below.refl _ _) (by omega)).mono ?_
  rintro e w4 ⟨b4, h4⟩
  have B4 := Lib.hid b4
  clear r0 r1 r2 r3 r4 b4
  rcases h4 with ⟨u1, m, v1, rfl, t1, hE⟩ | ⟨_, _, er, her, rfl, _⟩
  · obtain ⟨B1, d1, A1, c1, rfl, _⟩ := IsTm.form t1
    have hm3 := hE.2.1
    have hu1 := hE.done
    have hok1 := hE.1.ok (errT_zero.1 HX.out.1).1
    have hsz1 := hE.1.size (by have := (errT_zero.1 HX.out.1).2; omega)
    have hbk1 := ok_bulk hok1
    have HS := Lib.hid (And.intro hE.1 hu1)
    have T4 := Lib.hid (show IsTm (· < w4.heap.size) w4 u1 _ from IsTm.keep (fun b h => h.2) (fun _ _ => rfl) _ t1)
    clear t1 hE hu1 hok1
    go_upto_region 9 with fail
    obtain ⟨b5, z5, k5⟩ := new_blk B4.out B4.out.size #[.int .i64 u1.kind, .int .i64 u1.index, .int .i64 u1.type.kind, .slice B1 u1.type.args.length d1, .slice A1 u1.args.length c1] 34
    have T5 := Lib.hid (show IsTm (· < w4.heap.size) _ u1 _ from T4.out.keep (S' := (· < w4.heap.size)) (w' := w4.alloc (Obj.cells #[.int .i64 u1.kind, .int .i64 u1.index, .int .i64 u1.type.kind, .slice B1 u1.type.args.length d1, .slice A1 u1.args.length c1] 34)) (fun b h => h) (fun p hp => World.cell?_alloc_lt _ _ _ hp))
    generalize w4.alloc (Obj.cells #[.int .i64 u1.kind, .int .i64 u1.index, .int .i64 u1.type.kind, .slice B1 u1.type.args.length d1, .slice A1 u1.args.length c1] 34) = W5 at b5 z5 k5 T5 ⊢
    have B5 := Lib.hid b5
    have K5 := Lib.hid k5
    obtain ⟨r0, r1, r2, r3, r4, _, _, _, _, _⟩ := HC.out W5 b5
    clear b5 k5 T4
    go_wp2_with fail
    refine (HN.out (m + b) W5 B5.out (by omega)).mono ?_
    rintro e w6 h6
    obtain ⟨b6, h6 | h6⟩ := normal_again HS.out.1 HS.out.2 h6
    · obtain ⟨_, v6, rfl, t6⟩ := h6
      obtain ⟨B6, d6, A6, c6, rfl, _⟩ := IsTm.form t6
      have B6' := Lib.hid (B5.out.trans (b6.mono B5.out.size))
      have H6 := Lib.hid b6
      have hz6 := b6.size
      have T6 := Lib.hid (show IsTm (· < w6.heap.size) w6 u1 _ from IsTm.keep (fun b h => h.2) (fun _ _ => rfl) _ t6)
      clear r0 r1 r2 r3 r4 t6 b6
      go_upto_region 10 with fail
      obtain ⟨b7, z7, k7⟩ := new_blk B6'.out B6'.out.size #[.int .i64 u1.kind, .int .i64 u1.index, .int .i64 u1.type.kind, .slice B6 u1.type.args.length d6, .slice A6 u1.args.length c6] 34
      have b67 := below_box w6 (Obj.cells #[.int .i64 u1.kind, .int .i64 u1.index, .int .i64 u1.type.kind, .slice B6 u1.type.args.length d6, .slice A6 u1.args.length c6] 34)
      generalize w6.alloc (Obj.cells #[.int .i64 u1.kind, .int .i64 u1.index, .int .i64 u1.type.kind, .slice B6 u1.type.args.length d6, .slice A6 u1.args.length c6] 34) = W7 at b7 z7 k7 b67 ⊢
      have B7 := Lib.hid b7
      have B67 := Lib.hid b67
      obtain ⟨r0, r1, r2, r3, r4, _, _, _, _, _⟩ := k7.facts5
      obtain ⟨s0, s1, s2, s3, s4, _, _, _, _, _⟩ := (K5.out.below (H6.out.trans (b67.mono hz6)) K5.out.lt).facts5
      clear b7 k7 b67
      go_wp2_with fail
      refine (sameT_refl 400000 u1 _ _ W7 (by omega) (Nat.le_refl _) (T5.out.keep (fun b h => by have h' : b < w4.heap.size := h; omega) (fun p hp => (B67.out.cell (by have h' : p.block < w4.heap.size := hp; omega)).trans (H6.out.cell (by have h' : p.block < w4.heap.size := hp; omega)))) (T6.out.keep (fun b h => by have h' : b < w6.heap.size := h; omega) (fun p hp => B67.out.cell hp))).mono ?_
      rintro e w8 ⟨rfl, hb8⟩
      have B8 := Lib.hid (B7.out.trans (hb8.mono B7.out.size))
      clear hb8 r0 r1 r2 r3 r4 s0 s1 s2 s3 s4
      obtain ⟨r0, r1, r2, r3, r4, _, _, _, _, _⟩ := HC.out w8 B8.out
      by_cases hm : m = 0
      · subst hm
        go_wp2_with fail
        refine (HNN.out _ w8 B8.out (by omega)).mono ?_
        rintro e w9 ⟨rfl, b9⟩
        have B9 := Lib.hid (BW.out.trans ((B8.out.trans (b9.mono B8.out.size)).mono BW.out.size))
        clear r0 r1 r2 r3 r4 b9
        go_wp2_with fail
        go_ret
        exact ⟨rfl, B9.out.alloc B9.out.size _⟩
      · have hm1 : (m : Int) - 1 = ((m - 1 : Nat) : Int) := by omega
        have hm2 : ((m : Int) == 0) = false := by simpa using hm
        have hm4 : decide ((m : Int) > 0) = true := decide_eq_true (by omega)
        have hm5 : ¬ (m ≤ m - 1) := by omega
        go_wp2_with fail
        refine (HN.out (m - 1) w8 B8.out (by omega)).mono ?_
        rintro e w9 h9
        obtain ⟨b9, h9 | ⟨_, rfl⟩⟩ := normal_again HS.out.1 HS.out.2 h9
        · exact (hm5 h9.1).elim
        · have B9 := Lib.hid (BW.out.trans ((B8.out.trans (b9.mono B8.out.size)).mono BW.out.size))
          clear r0 r1 r2 r3 r4 b9 hm1
          go_wp2_with fail
          go_ret
          exact ⟨rfl, B9.out.alloc B9.out.size _⟩
    · exfalso
      have := h6.1
      omega
  · have B5 := Lib.hid (BW.out.trans (B4.out.mono BW.out.size))
    rcases her with rfl | rfl
    all_goals
      go_wp2_with fail
      go_ret
      exact ⟨rfl, B5.out.alloc B5.out.size _⟩
end Go.Proofs.YtdbkphgamkeboaaDoor
