/- The walk of the law on sizes. -/
import Derived.Test.YtcidmhjojkongaaDoorTypesLawT
import Derived.Test.YtcidmhjojkongaaDoorApply
namespace Go.Proofs.YtcidmhjojkongaaDoor
open Go.RowKit

theorem bd_small2 (t : Ty) : bdN 2 t ≤ 100 := by unfold bdN; split <;> decide
theorem bd_small1 (t : Ty) : bdN 1 t ≤ 100 := by unfold bdN; split <;> decide

theorem sizeT_is {T : Tm} {v : Value} {w : World} (n : Int) (hn : (T.size : Int) = n) (hok : T.ok = true) (hs : T.size ≤ 4096) (hb : T.bulk ≤ 100000) (htab : Tab w) (hT : IsTm (· < w.heap.size) w T v) :
    Calls Tryd.prog 19 #[v] w fun e w' => e = .returned (.tuple #[.int .i64 n, .int .i64 0]) ∧ Below w.heap.size w w' := by
  refine (sizeT_any T v w hb htab hT).mono ?_
  rintro e w' ⟨rfl, h⟩
  have he : T.err = 0 := errT_zero.2 ⟨hok, hs⟩
  exact ⟨by rw [errT_count he, he, hn], h⟩
theorem apply_two {f x y : Tm} {v s : Value} {w : World} (hf : f.ok = true) (hx : x.ok = true) (hy : y.ok = true) (h1 : f.size ≤ 100) (h2 : x.size ≤ 100) (h3 : y.size ≤ 100) (b1 : f.bulk ≤ 12000) (b2 : x.bulk ≤ 12000) (b3 : y.bulk ≤ 12000) (htab : Tab w)
    (hT : IsTm (· < w.heap.size) w f v) (hl : TmR.Sl (· < w.heap.size) w [x, y] s) :
    Calls Tryd.prog 28 #[v, s] w fun e w' => ∃ P v', P = appTm f [x, y] ∧ e = .returned (.tuple #[v', .int .i64 0]) ∧ IsTm (· < w'.heap.size) w' P v' ∧ Below w.heap.size w w' := by
  have e0 : f.err = 0 := errT_zero.2 ⟨hf, by omega⟩
  have e1 : x.err = 0 := errT_zero.2 ⟨hx, by omega⟩
  have e2 : y.err = 0 := errT_zero.2 ⟨hy, by omega⟩
  have he : appErr f [x, y] = 0 := by
    unfold appErr
    rw [if_pos e0, if_pos (by simp only [errsT]; rw [if_pos e1, if_pos e2]), if_pos (by simp only [sizeAllT, List.length_cons, List.length_nil]; omega)]
  refine (apply_any f [x, y] v s w htab (by omega) (by simp only [bulkAll]; omega) hT hl).mono ?_
  rintro e w' ⟨h1, h2⟩
  rw [if_pos he] at h2
  obtain ⟨v', h3, h4⟩ := h2
  exact ⟨_, v', rfl, h3, h4, h1⟩
theorem lam_ok {S : Ty} {x : Tm} (hs : S.ok = true) (hn : S.nodes ≤ 3) (hx : x.ok = true) : (Tm.mk 2 0 S [x]).ok = true := by
  have e : S.err = 0 := err_zero.2 ⟨hs, by omega⟩
  rw [okT_eq]; simp [okAllT, hx, Tm.args, Tm.formed, Tm.kind, Tm.index, Tm.type, arities, e]
theorem tm_slg {lo : Nat} {w : World} {x : Tm} {a0 a1 a2 a3 a4 : Value} (hlo : lo ≤ w.heap.size) (h : Trm lo w x (.agg #[a0, a1, a2, a3, a4])) :
    TmR.Sl (fun b => lo ≤ b ∧ b < (w.alloc (.cells #[a0, a1, a2, a3, a4] 28)).heap.size) (w.alloc (.cells #[a0, a1, a2, a3, a4] 28)) [x] (.slice (some ⟨w.heap.size, 0, none⟩) 1 1) :=
  Rep.Sl.built (R := TmR) (Rep.Ch.one (R := TmR) (vs := [a0, a1, a2, a3, a4]) h) (fun _ h => h.2) _ (fun b hb => ⟨hb.1, by have := hb.2; simp; omega⟩) ⟨hlo, by simp⟩
theorem app_two_facts {f x y P : Tm} (hP : P = appTm f [x, y]) (hf : f.ok = true) (hx : x.ok = true) (hy : y.ok = true) (b1 : f.bulk ≤ 12000) (b2 : x.bulk ≤ 12000) (b3 : y.bulk ≤ 12000) : P.ok = true ∧ P.size = f.size + x.size + y.size + 2 ∧ P.bulk ≤ 40000 := by
  have e : P = .mk 3 0 .zero [.mk 3 0 .zero [f, x], y] := hP
  rw [e]
  refine ⟨?_, ?_, ?_⟩
  · have h1 : (Tm.mk 3 0 .zero [f, x]).ok = true := by rw [okT_eq]; simp [okAllT, hf, hx, Tm.args, Tm.formed, Tm.kind, Tm.index, Tm.type, arities, Ty.zero, Ty.kind, Ty.args]
    generalize Tm.mk 3 0 .zero [f, x] = q at h1 ⊢
    rw [okT_eq]; simp [okAllT, h1, hy, Tm.args, Tm.formed, Tm.kind, Tm.index, Tm.type, arities, Ty.zero, Ty.kind, Ty.args]
  · simp only [Tm.size, sizeAllT]; omega
  · simp only [Tm.bulk, bulkAll, Ty.zero, Ty.nodes, nodesAll]; omega

set_option maxRecDepth 100000 in
set_option maxHeartbeats 1600000 in
theorem sizesLaw_small (A : Option Addr) (len cap : Nat) (w : World) (htab : Tab w) (hlen : len ≤ 500) (hA : ∀ i, i < len → ∃ a x, A = some a ∧ a.block < w.heap.size ∧ w.cell? (a.add i) = some (.int .i64 x)) :
    Calls Tryd.prog 6 #[.slice A len cap] w fun e w' => e = .returned (.bool true) ∧ Below w.heap.size w w' := by
  have hA' := Lib.hid hA
  have HTab := Lib.hid htab
  clear hA htab
  have e500 : decide ((len : Int) ≤ 500) = true := by simp; omega
  go_enter Tryd.func6, Tryd.ntmps6
  go_wp2_with fail
  refine (saneT_any w HTab.out).mono ?_
  rintro e w1 ⟨rfl, hb1⟩
  go_wp2_with fail
  refine (few_any A len cap w1 (by simp only [maxLen]; omega)).mono ?_
  rintro e w1' ⟨rfl, rfl⟩
  rw [e500]
  go_wp2_with fail
  have hA1 : ∀ i, i < len → ∃ a x, A = some a ∧ a.block < w1.heap.size ∧ w1.cell? (a.add i) = some (.int .i64 x) := fun i hi => by
    obtain ⟨a, x, h1, h2, h3⟩ := hA'.out i hi
    exact ⟨a, x, h1, Nat.lt_of_lt_of_le h2 hb1.size, (hb1.cell (by rw [add_block]; exact h2)).trans h3⟩
  refine (new_any A len cap w1 hlen hA1).mono ?_
  rintro e w2 ⟨rfl, hw2⟩
  have hd2 := new_deck A len cap w1 hlen hA1
  rw [hw2] at hd2
  have b_w2 : Below w.heap.size w w2 := by rw [← hw2]; exact hb1.alloc hb1.size _
  have hgw : w.heap.size ≤ w1.heap.size := hb1.size
  clear hw2 hA1 hb1
  generalize w1.heap.size = gg at hd2 hgw ⊢
  have z_w2 := hd2.lt
  have HD2 := Lib.hid hd2
  clear hd2
  go_wp2_with fail
  refine (mkContext_any gg w2 HD2.out).mono ?_
  rintro e w3 ⟨G, v, rfl, hG3, hGok, hGs, hGf, hGnil, hd3, hg3⟩
  obtain ⟨A3, c3, rfl⟩ := hGs.form
  have HD3 := Lib.hid hd3
  have HC3 := Lib.hid (show Ctx gg w3 G (.slice A3 G.length c3) from ⟨hGs.keep (fun b hb => ⟨by have := hb.1; omega, hb.2⟩) (fun _ _ => rfl), hGf, hGok⟩)
  have HGN := Lib.hid hGnil
  have HGO := Lib.hid hGok
  have s_w3 := turn_of hg3
  have b_w3 : Below w.heap.size w w3 := b_w2.trans (s_w3.toBelow (fun k hk e => by omega) b_w2.size)
  clear s_w3 b_w2 
  have z_w3 : gg < w3.heap.size := HD3.out.lt
  have m_w3_w3 := tRf gg w3
  clear hg3 hd3 hGs hGf hGnil hGok
  go_wp2_with fail
  refine (type_any 1 1 gg w3 (by omega) (by omega) (by omega) HD3.out).mono ?_
  rintro e w4 ⟨S, x4, rfl, okS, szS, tyS, hd4, hg4⟩
  obtain ⟨A4, c4, rfl⟩ := tyS.form
  have nS := type_three szS
  have HS := Lib.hid (And.intro okS (Typ.of tyS z_w3))
  have D_w4 := Lib.hid hd4
  have s_w4 := turn_of hg4
  have b_w4 : Below w.heap.size w w4 := b_w3.trans (s_w4.toBelow (fun k hk e => by omega) b_w3.size)
  have m_w3_w4 := m_w3_w3.trans s_w4
  clear s_w4 b_w3 m_w3_w3
  have z_w4 : gg < w4.heap.size := D_w4.out.lt
  have m_w4_w4 := tRf gg w4
  clear tyS hd4 hg4 okS szS
  go_wp2_with fail
  refine (term_any gg (4 * 2 + S.nodes + 1) G S 2 _ _ w4 (by simp) (by omega) (by omega) (by simp; omega) HS.out.1 nS (Ctx.turn HC3.out m_w3_w4) (Typ.turn HS.out.2 m_w4_w4) D_w4.out).mono ?_
  rintro e w5 ⟨X, v5, rfl, mX, tX, hd5, ht5⟩
  obtain ⟨B5, e5, A5, c5, rfl, _⟩ := IsTm.form tX
  have sX : X.size ≤ 100 := Nat.le_trans mX.size (bd_small2 S)
  have HMX := Lib.hid mX
  have bX : X.bulk ≤ 12000 := mX.bulk_le (bdN_le _ (by simp))
  have HTX := Lib.hid (show Trm w4.heap.size w5 X _ from tX)
  have D_w5 := Lib.hid hd5
  have s_w5 := ht5
  have b_w5 : Below w.heap.size w w5 := b_w4.trans (s_w5.toBelow (fun k hk e => by omega) b_w4.size)
  have m_w3_w5 := m_w3_w4.trans s_w5
  have m_w4_w5 := m_w4_w4.trans s_w5
  clear s_w5 b_w4 m_w3_w4 m_w4_w4
  have z_w5 : gg < w5.heap.size := D_w5.out.lt
  have m_w5_w5 := tRf gg w5
  clear tX hd5 ht5 mX
  go_wp2_with fail
  refine (type_any 1 1 gg w5 (by omega) (by omega) (by omega) D_w5.out).mono ?_
  rintro e w6 ⟨U, x6, rfl, okU, szU, tyU, hd6, hg6⟩
  obtain ⟨A6, c6, rfl⟩ := tyU.form
  have nU := type_three szU
  have HU := Lib.hid (And.intro okU (Typ.of tyU z_w5))
  have D_w6 := Lib.hid hd6
  have s_w6 := turn_of hg6
  have b_w6 : Below w.heap.size w w6 := b_w5.trans (s_w6.toBelow (fun k hk e => by omega) b_w5.size)
  have m_w3_w6 := m_w3_w5.trans s_w6
  have m_w4_w6 := m_w4_w5.trans s_w6
  have m_w5_w6 := m_w5_w5.trans s_w6
  clear s_w6 b_w5 m_w3_w5 m_w4_w5 m_w5_w5
  have z_w6 : gg < w6.heap.size := D_w6.out.lt
  have m_w6_w6 := tRf gg w6
  clear tyU hd6 hg6 okU szU
  go_wp2_with fail
  refine (term_any gg (4 * 2 + U.nodes + 1) G U 2 _ _ w6 (by simp) (by omega) (by omega) (by simp; omega) HU.out.1 nU (Ctx.turn HC3.out m_w3_w6) (Typ.turn HU.out.2 m_w6_w6) D_w6.out).mono ?_
  rintro e w7 ⟨Y, v7, rfl, mY, tY, hd7, ht7⟩
  obtain ⟨B7, e7, A7, c7, rfl, _⟩ := IsTm.form tY
  have sY : Y.size ≤ 100 := Nat.le_trans mY.size (bd_small2 U)
  have HMY := Lib.hid mY
  have bY : Y.bulk ≤ 12000 := mY.bulk_le (bdN_le _ (by simp))
  have HTY := Lib.hid (show Trm w6.heap.size w7 Y _ from tY)
  have D_w7 := Lib.hid hd7
  have s_w7 := ht7
  have b_w7 : Below w.heap.size w w7 := b_w6.trans (s_w7.toBelow (fun k hk e => by omega) b_w6.size)
  have m_w3_w7 := m_w3_w6.trans s_w7
  have m_w4_w7 := m_w4_w6.trans s_w7
  have m_w5_w7 := m_w5_w6.trans s_w7
  have m_w6_w7 := m_w6_w6.trans s_w7
  clear s_w7 b_w6 m_w3_w6 m_w4_w6 m_w5_w6 m_w6_w6
  have z_w7 : gg < w7.heap.size := D_w7.out.lt
  have m_w7_w7 := tRf gg w7
  clear tY hd7 ht7 mY
  go_wp2_with fail
  refine (type_any 1 1 gg w7 (by omega) (by omega) (by omega) D_w7.out).mono ?_
  rintro e w8 ⟨V, x8, rfl, okV, szV, tyV, hd8, hg8⟩
  obtain ⟨A8, c8, rfl⟩ := tyV.form
  have nV := type_three szV
  have HV := Lib.hid (And.intro okV (Typ.of tyV z_w7))
  have D_w8 := Lib.hid hd8
  have s_w8 := turn_of hg8
  have b_w8 : Below w.heap.size w w8 := b_w7.trans (s_w8.toBelow (fun k hk e => by omega) b_w7.size)
  have m_w3_w8 := m_w3_w7.trans s_w8
  have m_w4_w8 := m_w4_w7.trans s_w8
  have m_w5_w8 := m_w5_w7.trans s_w8
  have m_w6_w8 := m_w6_w7.trans s_w8
  have m_w7_w8 := m_w7_w7.trans s_w8
  clear s_w8 b_w7 m_w3_w7 m_w4_w7 m_w5_w7 m_w6_w7 m_w7_w7
  have z_w8 : gg < w8.heap.size := D_w8.out.lt
  have m_w8_w8 := tRf gg w8
  clear tyV hd8 hg8 okV szV
  go_wp2_with fail
  refine (term_any gg (4 * 1 + V.nodes + 1) G V 1 _ _ w8 (by simp) (by omega) (by omega) (by simp; omega) HV.out.1 nV (Ctx.turn HC3.out m_w3_w8) (Typ.turn HV.out.2 m_w8_w8) D_w8.out).mono ?_
  rintro e w9 ⟨Z, v9, rfl, mZ, tZ, hd9, ht9⟩
  obtain ⟨B9, e9, A9, c9, rfl, _⟩ := IsTm.form tZ
  have sZ : Z.size ≤ 100 := Nat.le_trans mZ.size (bd_small1 V)
  have HMZ := Lib.hid mZ
  have bZ : Z.bulk ≤ 12000 := mZ.bulk_le (bdN_le _ (by simp))
  have HTZ := Lib.hid (show Trm w8.heap.size w9 Z _ from tZ)
  have D_w9 := Lib.hid hd9
  have s_w9 := ht9
  have b_w9 : Below w.heap.size w w9 := b_w8.trans (s_w9.toBelow (fun k hk e => by omega) b_w8.size)
  have m_w3_w9 := m_w3_w8.trans s_w9
  have m_w4_w9 := m_w4_w8.trans s_w9
  have m_w5_w9 := m_w5_w8.trans s_w9
  have m_w6_w9 := m_w6_w8.trans s_w9
  have m_w7_w9 := m_w7_w8.trans s_w9
  have m_w8_w9 := m_w8_w8.trans s_w9
  clear s_w9 b_w8 m_w3_w8 m_w4_w8 m_w5_w8 m_w6_w8 m_w7_w8 m_w8_w8
  have z_w9 : gg < w9.heap.size := D_w9.out.lt
  have m_w9_w9 := tRf gg w9
  clear tZ hd9 ht9 mZ
  go_wp2_with fail
  have d_W10 := (Deck.box D_w9.out (Obj.cells #[.int .i64 X.kind, .int .i64 X.index, .int .i64 X.type.kind, .slice B5 X.type.args.length e5, .slice A5 X.args.length c5] 28))
  obtain ⟨a_W10, y_W10, k_W10⟩ := new_blk (Below.refl w9.heap.size w9) (Nat.le_refl _) #[.int .i64 X.kind, .int .i64 X.index, .int .i64 X.type.kind, .slice B5 X.type.args.length e5, .slice A5 X.args.length c5] 28
  generalize w9.alloc (Obj.cells #[.int .i64 X.kind, .int .i64 X.index, .int .i64 X.type.kind, .slice B5 X.type.args.length e5, .slice A5 X.args.length c5] 28) = W10 at a_W10 y_W10 k_W10 d_W10 ⊢
  have s_W10 := (tCa gg a_W10)
  have b_W10 : Below w.heap.size w W10 := b_w9.trans (s_W10.toBelow (fun k hk e => by omega) b_w9.size)
  have m_w3_W10 := m_w3_w9.trans s_W10
  have m_w4_W10 := m_w4_w9.trans s_W10
  have m_w5_W10 := m_w5_w9.trans s_W10
  have m_w6_W10 := m_w6_w9.trans s_W10
  have m_w7_W10 := m_w7_w9.trans s_W10
  have m_w8_W10 := m_w8_w9.trans s_W10
  have m_w9_W10 := m_w9_w9.trans s_W10
  clear s_W10 b_w9 m_w3_w9 m_w4_w9 m_w5_w9 m_w6_w9 m_w7_w9 m_w8_w9 m_w9_w9
  have z_W10 : gg < W10.heap.size := by have := z_w9; omega
  have m_W10_W10 := tRf gg W10
  have K_W10 := Lib.hid k_W10
  have D_W10 := Lib.hid d_W10
  have n_W10 : w9.heap.size ≠ gg := by have := z_w9; omega
  have d_W11 := (Deck.box D_W10.out (Obj.cells #[.int .i64 Y.kind, .int .i64 Y.index, .int .i64 Y.type.kind, .slice B7 Y.type.args.length e7, .slice A7 Y.args.length c7] 28))
  obtain ⟨a_W11, y_W11, k_W11⟩ := new_blk (Below.refl W10.heap.size W10) (Nat.le_refl _) #[.int .i64 Y.kind, .int .i64 Y.index, .int .i64 Y.type.kind, .slice B7 Y.type.args.length e7, .slice A7 Y.args.length c7] 28
  rw [y_W10] at k_W11
  generalize W10.alloc (Obj.cells #[.int .i64 Y.kind, .int .i64 Y.index, .int .i64 Y.type.kind, .slice B7 Y.type.args.length e7, .slice A7 Y.args.length c7] 28) = W11 at a_W11 y_W11 k_W11 d_W11 ⊢
  have s_W11 := (tCa gg a_W11)
  have b_W11 : Below w.heap.size w W11 := b_W10.trans (s_W11.toBelow (fun k hk e => by omega) b_W10.size)
  have m_w3_W11 := m_w3_W10.trans s_W11
  have m_w4_W11 := m_w4_W10.trans s_W11
  have m_w5_W11 := m_w5_W10.trans s_W11
  have m_w6_W11 := m_w6_W10.trans s_W11
  have m_w7_W11 := m_w7_W10.trans s_W11
  have m_w8_W11 := m_w8_W10.trans s_W11
  have m_w9_W11 := m_w9_W10.trans s_W11
  have m_W10_W11 := m_W10_W10.trans s_W11
  clear s_W11 b_W10 m_w3_W10 m_w4_W10 m_w5_W10 m_w6_W10 m_w7_W10 m_w8_W10 m_w9_W10 m_W10_W10
  have z_W11 : gg < W11.heap.size := by have := z_W10; omega
  have m_W11_W11 := tRf gg W11
  have K_W11 := Lib.hid k_W11
  have D_W11 := Lib.hid d_W11
  have n_W11 : w9.heap.size + 1 ≠ gg := by have := z_w9; omega
  have d_W12 := (Deck.box D_W11.out (Obj.cells #[.int .i64 Z.kind, .int .i64 Z.index, .int .i64 Z.type.kind, .slice B9 Z.type.args.length e9, .slice A9 Z.args.length c9] 28))
  obtain ⟨a_W12, y_W12, k_W12⟩ := new_blk (Below.refl W11.heap.size W11) (Nat.le_refl _) #[.int .i64 Z.kind, .int .i64 Z.index, .int .i64 Z.type.kind, .slice B9 Z.type.args.length e9, .slice A9 Z.args.length c9] 28
  rw [y_W11, y_W10] at k_W12
  generalize W11.alloc (Obj.cells #[.int .i64 Z.kind, .int .i64 Z.index, .int .i64 Z.type.kind, .slice B9 Z.type.args.length e9, .slice A9 Z.args.length c9] 28) = W12 at a_W12 y_W12 k_W12 d_W12 ⊢
  have s_W12 := (tCa gg a_W12)
  have b_W12 : Below w.heap.size w W12 := b_W11.trans (s_W12.toBelow (fun k hk e => by omega) b_W11.size)
  have m_w3_W12 := m_w3_W11.trans s_W12
  have m_w4_W12 := m_w4_W11.trans s_W12
  have m_w5_W12 := m_w5_W11.trans s_W12
  have m_w6_W12 := m_w6_W11.trans s_W12
  have m_w7_W12 := m_w7_W11.trans s_W12
  have m_w8_W12 := m_w8_W11.trans s_W12
  have m_w9_W12 := m_w9_W11.trans s_W12
  have m_W10_W12 := m_W10_W11.trans s_W12
  have m_W11_W12 := m_W11_W11.trans s_W12
  clear s_W12 b_W11 m_w3_W11 m_w4_W11 m_w5_W11 m_w6_W11 m_w7_W11 m_w8_W11 m_w9_W11 m_W10_W11 m_W11_W11
  have z_W12 : gg < W12.heap.size := by have := z_W11; omega
  have m_W12_W12 := tRf gg W12
  have K_W12 := Lib.hid k_W12
  have D_W12 := Lib.hid d_W12
  have n_W12 : w9.heap.size + 1 + 1 ≠ gg := by have := z_w9; omega
  clear a_W10 a_W11 a_W12 k_W10 k_W11 k_W12 d_W10 d_W11 d_W12 y_W10 y_W11 y_W12
  refine (sizeT_is ((X.size : Int)) (by omega) HMX.out.ok (by omega) (by omega) (HTab.out.after b_W12) (Trm.below (Trm.turn HTX.out m_w5_W12 z_w4))).mono ?_
  rintro e w13 ⟨rfl, hb13⟩
  have D_w13 := Lib.hid (Deck.call D_W12.out hb13)
  have s_w13 := (tCa gg hb13)
  have b_w13 : Below w.heap.size w w13 := b_W12.trans (s_w13.toBelow (fun k hk e => by omega) b_W12.size)
  have m_w3_w13 := m_w3_W12.trans s_w13
  have m_w4_w13 := m_w4_W12.trans s_w13
  have m_w5_w13 := m_w5_W12.trans s_w13
  have m_w6_w13 := m_w6_W12.trans s_w13
  have m_w7_w13 := m_w7_W12.trans s_w13
  have m_w8_w13 := m_w8_W12.trans s_w13
  have m_w9_w13 := m_w9_W12.trans s_w13
  have m_W10_w13 := m_W10_W12.trans s_w13
  have m_W11_w13 := m_W11_W12.trans s_w13
  have m_W12_w13 := m_W12_W12.trans s_w13
  clear s_w13 b_W12 m_w3_W12 m_w4_W12 m_w5_W12 m_w6_W12 m_w7_W12 m_w8_W12 m_w9_W12 m_W10_W12 m_W11_W12 m_W12_W12
  have z_w13 : gg < w13.heap.size := D_w13.out.lt
  have m_w13_w13 := tRf gg w13
  clear hb13
  obtain ⟨p0, p1, p2, p3, p4, _, _, _, _, _⟩ := (Turn.blk m_W11_w13 K_W11.out n_W11).facts5
  go_wp2_with fail
  clear p0 p1 p2 p3 p4
  refine (sizeT_is ((Y.size : Int)) (by omega) HMY.out.ok (by omega) (by omega) (HTab.out.after b_w13) (Trm.below (Trm.turn HTY.out m_w7_w13 z_w6))).mono ?_
  rintro e w14 ⟨rfl, hb14⟩
  have D_w14 := Lib.hid (Deck.call D_w13.out hb14)
  have s_w14 := (tCa gg hb14)
  have b_w14 : Below w.heap.size w w14 := b_w13.trans (s_w14.toBelow (fun k hk e => by omega) b_w13.size)
  have m_w3_w14 := m_w3_w13.trans s_w14
  have m_w4_w14 := m_w4_w13.trans s_w14
  have m_w5_w14 := m_w5_w13.trans s_w14
  have m_w6_w14 := m_w6_w13.trans s_w14
  have m_w7_w14 := m_w7_w13.trans s_w14
  have m_w8_w14 := m_w8_w13.trans s_w14
  have m_w9_w14 := m_w9_w13.trans s_w14
  have m_W10_w14 := m_W10_w13.trans s_w14
  have m_W11_w14 := m_W11_w13.trans s_w14
  have m_W12_w14 := m_W12_w13.trans s_w14
  have m_w13_w14 := m_w13_w13.trans s_w14
  clear s_w14 b_w13 m_w3_w13 m_w4_w13 m_w5_w13 m_w6_w13 m_w7_w13 m_w8_w13 m_w9_w13 m_W10_w13 m_W11_w13 m_W12_w13 m_w13_w13
  have z_w14 : gg < w14.heap.size := D_w14.out.lt
  have m_w14_w14 := tRf gg w14
  clear hb14
  obtain ⟨p0, p1, p2, p3, p4, _, _, _, _, _⟩ := (Turn.blk m_W12_w14 K_W12.out n_W12).facts5
  go_wp2_with fail
  clear p0 p1 p2 p3 p4
  refine (sizeT_is ((Z.size : Int)) (by omega) HMZ.out.ok (by omega) (by omega) (HTab.out.after b_w14) (Trm.below (Trm.turn HTZ.out m_w9_w14 z_w8))).mono ?_
  rintro e w15 ⟨rfl, hb15⟩
  have D_w15 := Lib.hid (Deck.call D_w14.out hb15)
  have s_w15 := (tCa gg hb15)
  have b_w15 : Below w.heap.size w w15 := b_w14.trans (s_w15.toBelow (fun k hk e => by omega) b_w14.size)
  have m_w3_w15 := m_w3_w14.trans s_w15
  have m_w4_w15 := m_w4_w14.trans s_w15
  have m_w5_w15 := m_w5_w14.trans s_w15
  have m_w6_w15 := m_w6_w14.trans s_w15
  have m_w7_w15 := m_w7_w14.trans s_w15
  have m_w8_w15 := m_w8_w14.trans s_w15
  have m_w9_w15 := m_w9_w14.trans s_w15
  have m_W10_w15 := m_W10_w14.trans s_w15
  have m_W11_w15 := m_W11_w14.trans s_w15
  have m_W12_w15 := m_W12_w14.trans s_w15
  have m_w13_w15 := m_w13_w14.trans s_w15
  have m_w14_w15 := m_w14_w14.trans s_w15
  clear s_w15 b_w14 m_w3_w14 m_w4_w14 m_w5_w14 m_w6_w14 m_w7_w14 m_w8_w14 m_w9_w14 m_W10_w14 m_W11_w14 m_W12_w14 m_w13_w14 m_w14_w14
  have z_w15 : gg < w15.heap.size := D_w15.out.lt
  have m_w15_w15 := tRf gg w15
  clear hb15
  obtain ⟨p0, p1, p2, p3, p4, _, _, _, _, _⟩ := (Turn.blk m_W10_w15 K_W10.out n_W10).facts5
  obtain ⟨q0, q1, q2, q3, q4, _, _, _, _, _⟩ := (Turn.blk m_W11_w15 K_W11.out n_W11).facts5
  obtain ⟨r0, r1, r2, r3, r4, _, _, _, _, _⟩ := (Turn.blk m_W12_w15 K_W12.out n_W12).facts5
  go_wp2_with fail
  clear p0 p1 p2 p3 p4 q0 q1 q2 q3 q4 r0 r1 r2 r3 r4
  have hsl := tm_sl2 (Trm.below (Trm.turn HTY.out m_w7_w15 z_w6)) (Trm.below (Trm.turn HTZ.out m_w9_w15 z_w8))
  have hX := IsTm.boxed (Trm.below (Trm.turn HTX.out m_w5_w15 z_w4)) (below_box w15 (Obj.cells #[.int .i64 Y.kind, .int .i64 Y.index, .int .i64 Y.type.kind, .slice B7 Y.type.args.length e7, .slice A7 Y.args.length c7, .int .i64 Z.kind, .int .i64 Z.index, .int .i64 Z.type.kind, .slice B9 Z.type.args.length e9, .slice A9 Z.args.length c9] 28))
  have d_W16 := (Deck.box D_w15.out (Obj.cells #[.int .i64 Y.kind, .int .i64 Y.index, .int .i64 Y.type.kind, .slice B7 Y.type.args.length e7, .slice A7 Y.args.length c7, .int .i64 Z.kind, .int .i64 Z.index, .int .i64 Z.type.kind, .slice B9 Z.type.args.length e9, .slice A9 Z.args.length c9] 28))
  have a_W16 := below_box w15 (Obj.cells #[.int .i64 Y.kind, .int .i64 Y.index, .int .i64 Y.type.kind, .slice B7 Y.type.args.length e7, .slice A7 Y.args.length c7, .int .i64 Z.kind, .int .i64 Z.index, .int .i64 Z.type.kind, .slice B9 Z.type.args.length e9, .slice A9 Z.args.length c9] 28)
  generalize w15.alloc (Obj.cells #[.int .i64 Y.kind, .int .i64 Y.index, .int .i64 Y.type.kind, .slice B7 Y.type.args.length e7, .slice A7 Y.args.length c7, .int .i64 Z.kind, .int .i64 Z.index, .int .i64 Z.type.kind, .slice B9 Z.type.args.length e9, .slice A9 Z.args.length c9] 28) = W16 at hsl hX d_W16 a_W16 ⊢
  have s_W16 := (tCa gg a_W16)
  have b_W16 : Below w.heap.size w W16 := b_w15.trans (s_W16.toBelow (fun k hk e => by omega) b_w15.size)
  have m_w3_W16 := m_w3_w15.trans s_W16
  have m_w4_W16 := m_w4_w15.trans s_W16
  have m_w5_W16 := m_w5_w15.trans s_W16
  have m_w6_W16 := m_w6_w15.trans s_W16
  have m_w7_W16 := m_w7_w15.trans s_W16
  have m_w8_W16 := m_w8_w15.trans s_W16
  have m_w9_W16 := m_w9_w15.trans s_W16
  have m_W10_W16 := m_W10_w15.trans s_W16
  have m_W11_W16 := m_W11_w15.trans s_W16
  have m_W12_W16 := m_W12_w15.trans s_W16
  have m_w13_W16 := m_w13_w15.trans s_W16
  have m_w14_W16 := m_w14_w15.trans s_W16
  have m_w15_W16 := m_w15_w15.trans s_W16
  clear s_W16 b_w15 m_w3_w15 m_w4_w15 m_w5_w15 m_w6_w15 m_w7_w15 m_w8_w15 m_w9_w15 m_W10_w15 m_W11_w15 m_W12_w15 m_w13_w15 m_w14_w15 m_w15_w15
  have z_W16 : gg < W16.heap.size := d_W16.lt
  have m_W16_W16 := tRf gg W16
  have D_W16 := Lib.hid d_W16
  have HSL := Lib.hid (And.intro hsl hX)
  clear hsl hX d_W16 a_W16
  refine (apply_two HMX.out.ok HMY.out.ok HMZ.out.ok sX sY sZ bX bY bZ (HTab.out.after b_W16) HSL.out.2 HSL.out.1).mono ?_
  rintro e w17 ⟨P, v17, hP, rfl, tP, hb17⟩
  obtain ⟨B17, e17, A17, c17, rfl, _⟩ := IsTm.form tP
  have HP := Lib.hid (app_two_facts hP HMX.out.ok HMY.out.ok HMZ.out.ok bX bY bZ)
  have HTP := Lib.hid tP
  have D_w17 := Lib.hid (Deck.call D_W16.out hb17)
  have s_w17 := (tCa gg hb17)
  have b_w17 : Below w.heap.size w w17 := b_W16.trans (s_w17.toBelow (fun k hk e => by omega) b_W16.size)
  have m_w3_w17 := m_w3_W16.trans s_w17
  have m_w4_w17 := m_w4_W16.trans s_w17
  have m_w5_w17 := m_w5_W16.trans s_w17
  have m_w6_w17 := m_w6_W16.trans s_w17
  have m_w7_w17 := m_w7_W16.trans s_w17
  have m_w8_w17 := m_w8_W16.trans s_w17
  have m_w9_w17 := m_w9_W16.trans s_w17
  have m_W10_w17 := m_W10_W16.trans s_w17
  have m_W11_w17 := m_W11_W16.trans s_w17
  have m_W12_w17 := m_W12_W16.trans s_w17
  have m_w13_w17 := m_w13_W16.trans s_w17
  have m_w14_w17 := m_w14_W16.trans s_w17
  have m_w15_w17 := m_w15_W16.trans s_w17
  have m_W16_w17 := m_W16_W16.trans s_w17
  clear s_w17 b_W16 m_w3_W16 m_w4_W16 m_w5_W16 m_w6_W16 m_w7_W16 m_w8_W16 m_w9_W16 m_W10_W16 m_W11_W16 m_W12_W16 m_w13_W16 m_w14_W16 m_w15_W16 m_W16_W16
  have z_w17 : gg < w17.heap.size := D_w17.out.lt
  have m_w17_w17 := tRf gg w17
  clear tP hb17 hP
  go_wp2_with fail
  have n_W18 : w17.heap.size ≠ gg := by have := z_w17; omega
  have d_W18 := (Deck.box D_w17.out (Obj.cells #[.int .i64 P.kind, .int .i64 P.index, .int .i64 P.type.kind, .slice B17 P.type.args.length e17, .slice A17 P.args.length c17] 28))
  obtain ⟨a_W18, y_W18, k_W18⟩ := new_blk (Below.refl w17.heap.size w17) (Nat.le_refl _) #[.int .i64 P.kind, .int .i64 P.index, .int .i64 P.type.kind, .slice B17 P.type.args.length e17, .slice A17 P.args.length c17] 28
  generalize w17.alloc (Obj.cells #[.int .i64 P.kind, .int .i64 P.index, .int .i64 P.type.kind, .slice B17 P.type.args.length e17, .slice A17 P.args.length c17] 28) = W18 at a_W18 y_W18 k_W18 d_W18 ⊢
  have s_W18 := (tCa gg a_W18)
  have b_W18 : Below w.heap.size w W18 := b_w17.trans (s_W18.toBelow (fun k hk e => by omega) b_w17.size)
  have m_w3_W18 := m_w3_w17.trans s_W18
  have m_w4_W18 := m_w4_w17.trans s_W18
  have m_w5_W18 := m_w5_w17.trans s_W18
  have m_w6_W18 := m_w6_w17.trans s_W18
  have m_w7_W18 := m_w7_w17.trans s_W18
  have m_w8_W18 := m_w8_w17.trans s_W18
  have m_w9_W18 := m_w9_w17.trans s_W18
  have m_W10_W18 := m_W10_w17.trans s_W18
  have m_W11_W18 := m_W11_w17.trans s_W18
  have m_W12_W18 := m_W12_w17.trans s_W18
  have m_w13_W18 := m_w13_w17.trans s_W18
  have m_w14_W18 := m_w14_w17.trans s_W18
  have m_w15_W18 := m_w15_w17.trans s_W18
  have m_W16_W18 := m_W16_w17.trans s_W18
  have m_w17_W18 := m_w17_w17.trans s_W18
  clear s_W18 b_w17 m_w3_w17 m_w4_w17 m_w5_w17 m_w6_w17 m_w7_w17 m_w8_w17 m_w9_w17 m_W10_w17 m_W11_w17 m_W12_w17 m_w13_w17 m_w14_w17 m_w15_w17 m_W16_w17 m_w17_w17
  have z_W18 : gg < W18.heap.size := by have := z_w17; omega
  have m_W18_W18 := tRf gg W18
  have K_W18 := Lib.hid k_W18
  have D_W18 := Lib.hid d_W18
  have a18 := Lib.hid a_W18
  clear a_W18 k_W18 y_W18 d_W18
  refine (sizeT_is ((X.size : Int) + (Y.size : Int) + (Z.size : Int) + 2) (by have := HP.out.2.1; omega) HP.out.1 (by have := HP.out.2.1; omega) (by have := HP.out.2.2; omega) (HTab.out.after b_W18) (HTP.out.boxed a18.out)).mono ?_
  rintro e w19 ⟨rfl, hb19⟩
  have D_w19 := Lib.hid (Deck.call D_W18.out hb19)
  have s_w19 := (tCa gg hb19)
  have b_w19 : Below w.heap.size w w19 := b_W18.trans (s_w19.toBelow (fun k hk e => by omega) b_W18.size)
  have m_w3_w19 := m_w3_W18.trans s_w19
  have m_w4_w19 := m_w4_W18.trans s_w19
  have m_w5_w19 := m_w5_W18.trans s_w19
  have m_w6_w19 := m_w6_W18.trans s_w19
  have m_w7_w19 := m_w7_W18.trans s_w19
  have m_w8_w19 := m_w8_W18.trans s_w19
  have m_w9_w19 := m_w9_W18.trans s_w19
  have m_W10_w19 := m_W10_W18.trans s_w19
  have m_W11_w19 := m_W11_W18.trans s_w19
  have m_W12_w19 := m_W12_W18.trans s_w19
  have m_w13_w19 := m_w13_W18.trans s_w19
  have m_w14_w19 := m_w14_W18.trans s_w19
  have m_w15_w19 := m_w15_W18.trans s_w19
  have m_W16_w19 := m_W16_W18.trans s_w19
  have m_w17_w19 := m_w17_W18.trans s_w19
  have m_W18_w19 := m_W18_W18.trans s_w19
  clear s_w19 b_W18 m_w3_W18 m_w4_W18 m_w5_W18 m_w6_W18 m_w7_W18 m_w8_W18 m_w9_W18 m_W10_W18 m_W11_W18 m_W12_W18 m_w13_W18 m_w14_W18 m_w15_W18 m_W16_W18 m_w17_W18 m_W18_W18
  have z_w19 : gg < w19.heap.size := D_w19.out.lt
  have m_w19_w19 := tRf gg w19
  clear hb19
  have HSK := Lib.hid fun (w' : World) (h : Turn (· = gg) w19 w') => And.intro (Turn.blk (m_W10_w19.trans h) K_W10.out n_W10).facts5.1 (And.intro (Turn.blk (m_W10_w19.trans h) K_W10.out n_W10).facts5.2.1 (And.intro (Turn.blk (m_W10_w19.trans h) K_W10.out n_W10).facts5.2.2.1 (And.intro (Turn.blk (m_W10_w19.trans h) K_W10.out n_W10).facts5.2.2.2.1 (Turn.blk (m_W10_w19.trans h) K_W10.out n_W10).facts5.2.2.2.2.1)))
  obtain ⟨p0, p1, p2, p3, p4⟩ := HSK.out w19 (Turn.refl _ _)
  have hgw' : w.heap.size ≤ gg := hgw
  have BW := Lib.hid b_w19
  have MX := Lib.hid m_w5_w19
  have LW4 := Lib.hid (show w4.heap.size ≤ w19.heap.size from m_w4_w19.size)
  have QD := Lib.hid (tDr gg w19)
  have QA := Lib.hid (tAl gg w19 (Obj.cells #[.int .i64 X.kind, .int .i64 X.index, .int .i64 X.type.kind, .slice B5 X.type.args.length e5, .slice A5 X.args.length c5] 28))
  have QB := Lib.hid ((tAl gg w19 (Obj.cells #[.int .i64 X.kind, .int .i64 X.index, .int .i64 X.type.kind, .slice B5 X.type.args.length e5, .slice A5 X.args.length c5] 28)).trans (tDr gg _))
  go_upto_region 13 with fail
  go_region_held3 (fun w' => w'.cell? ⟨w9.heap.size, 0, none⟩ = some (.int .i64 X.kind) ∧ w'.cell? ⟨w9.heap.size, 1, none⟩ = some (.int .i64 X.index) ∧ w'.cell? ⟨w9.heap.size, 2, none⟩ = some (.int .i64 X.type.kind) ∧ w'.cell? ⟨w9.heap.size, 3, none⟩ = some (.slice B5 X.type.args.length e5) ∧ w'.cell? ⟨w9.heap.size, 4, none⟩ = some (.slice A5 X.args.length c5))
    (first | with_reducible exact HSK.out _ QD.out | with_reducible exact HSK.out _ QA.out | with_reducible exact HSK.out _ QB.out | with_reducible exact HSK.out _ T20.out | with_reducible exact HSK.out _ T20A.out | with_reducible exact HSK.out _ T21.out | with_reducible exact HSK.out _ T22.out)
    (first
      | (go_at_call 19
         have P22 := sizeT_is ((X.size : Int) + 1) (by rw [E21.out]; simp only [Tm.size, sizeAllT]; omega) (show y21.ok = true by rw [E21.out]; exact lam_ok HS20.out.1 nS20 HMX.out.ok) (by rw [E21.out]; simp only [Tm.size, sizeAllT]; omega) (by omega) (HTab.out.after (BW.out.trans (T21.out.toBelow (fun k hk e => by omega) BW.out.size))) (Trm.below X21.out)
         (with_reducible refine P22.mono ?_)
         rintro e w22 ⟨rfl, r22⟩
         clear P22
         have T22 := Lib.hid (T21.out.trans (tCa gg r22)))
      | (go_at_call 32
         have P21 := t_call 2 (T := S2) (by omega) (bulk_1 bX) (Typ.below (Typ.turn HS20.out.2 (tAl gg _ (Obj.cells #[.int .i64 X.kind, .int .i64 X.index, .int .i64 X.type.kind, .slice B5 X.type.args.length e5, .slice A5 X.args.length c5] 28)))) (tm_sl1 (Trm.below (Trm.turn HTX.out (MX.out.trans T20.out) z_w4)))
         (with_reducible refine P21.mono ?_)
         rintro e w21 ⟨y21, v21, h21, rfl, t21, r21⟩
         clear P21
         have T21 := Lib.hid ((T20.out.trans (tAl gg _ (Obj.cells #[.int .i64 X.kind, .int .i64 X.index, .int .i64 X.type.kind, .slice B5 X.type.args.length e5, .slice A5 X.args.length c5] 28))).trans (tCa gg r21))
         obtain ⟨B21, e21, A21, c21, rfl, _⟩ := IsTm.form t21
         have X21 := Lib.hid (show Trm _ w21 y21 _ from t21)
         have b21 : y21.bulk ≤ 12010 := by rw [h21]; exact bulkN1 nS20 bX
         have E21 := Lib.hid h21
         clear h21 t21 r21)
      | (go_at_call 32
         have P21 := t_call 2 (T := S2) (by omega) (bulk_1 bX) (Typ.below HS20.out.2) ((tm_slg LW4.out (Trm.turn HTX.out MX.out z_w4)).keep (S' := (· < w20.heap.size)) (fun b h => Nat.lt_of_lt_of_le h.2 U20.out.size) (fun p hp => World.cell?_of_block (U20.out.block p.block hp.2 (fun e => by have := hp.1; omega))))
         (with_reducible refine P21.mono ?_)
         rintro e w21 ⟨y21, v21, h21, rfl, t21, r21⟩
         clear P21
         have T21 := Lib.hid (T20.out.trans (tCa gg r21))
         obtain ⟨B21, e21, A21, c21, rfl, _⟩ := IsTm.form t21
         have X21 := Lib.hid (show Trm _ w21 y21 _ from t21)
         have b21 : y21.bulk ≤ 12010 := by rw [h21]; exact bulkN1 nS20 bX
         have E21 := Lib.hid h21
         clear h21 t21 r21)
      | (go_at_call 16
         have P20 := type_any 1 1 gg w19.drew (by omega) (by omega) (by omega) (Deck.drewd D_w19.out)
         (with_reducible refine P20.mono ?_)
         rintro e w20 ⟨S2, x20, rfl, okS2, szS2, tyS2, hd20, hg20⟩
         clear P20
         obtain ⟨A20, c20, rfl⟩ := tyS2.form
         have nS20 := type_three szS2
         have HS20 := Lib.hid (And.intro okS2 (Typ.of tyS2 z_w19))
         have T20 := Lib.hid ((tDr gg w19).trans (turn_of hg20))
         have T20A := Lib.hid (((tDr gg w19).trans (turn_of hg20)).trans (tAl gg _ (Obj.cells #[.int .i64 X.kind, .int .i64 X.index, .int .i64 X.type.kind, .slice B5 X.type.args.length e5, .slice A5 X.args.length c5] 28)))
         clear tyS2 hd20 hg20 okS2 szS2)
      | (go_at_call 16
         have P20 := type_any 1 1 gg (w19.alloc (Obj.cells #[.int .i64 X.kind, .int .i64 X.index, .int .i64 X.type.kind, .slice B5 X.type.args.length e5, .slice A5 X.args.length c5] 28)).drew (by omega) (by omega) (by omega) (Deck.drewd (D_w19.out.box (Obj.cells #[.int .i64 X.kind, .int .i64 X.index, .int .i64 X.type.kind, .slice B5 X.type.args.length e5, .slice A5 X.args.length c5] 28)))
         (with_reducible refine P20.mono ?_)
         rintro e w20 ⟨S2, x20, rfl, okS2, szS2, tyS2, hd20, hg20⟩
         clear P20
         obtain ⟨A20, c20, rfl⟩ := tyS2.form
         have nS20 := type_three szS2
         have HS20 := Lib.hid (And.intro okS2 (Typ.of tyS2 (show gg < (w19.alloc (Obj.cells #[.int .i64 X.kind, .int .i64 X.index, .int .i64 X.type.kind, .slice B5 X.type.args.length e5, .slice A5 X.args.length c5] 28)).drew.heap.size from Nat.lt_of_lt_of_le z_w19 QB.out.size)))
         have U20 := Lib.hid ((tDr gg (w19.alloc (Obj.cells #[.int .i64 X.kind, .int .i64 X.index, .int .i64 X.type.kind, .slice B5 X.type.args.length e5, .slice A5 X.args.length c5] 28))).trans (turn_of hg20))
         have T20 := Lib.hid (QB.out.trans (turn_of hg20))
         clear tyS2 hd20 hg20 okS2 szS2))
  all_goals (go_wp2_with fail; go_ret; exact ⟨rfl, BW.out.trans (T22.out.toBelow (fun k hk e => by omega) BW.out.size)⟩)
end Go.Proofs.YtcidmhjojkongaaDoor
