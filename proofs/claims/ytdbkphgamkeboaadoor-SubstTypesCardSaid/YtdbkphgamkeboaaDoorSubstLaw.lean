/- The walk of the law that putting in and lifting keep types. -/
import Derived.Test.YtdbkphgamkeboaaDoorPackLaw
namespace Go.Proofs.YtdbkphgamkeboaaDoor
open Go.RowKit

set_option maxRecDepth 100000 in
set_option maxHeartbeats 16000000 in
theorem substTypes_small (A : Option Addr) (len cap : Nat) (w : World) (htab : Tab w) (hlen : len ≤ 500) (hA : ∀ i, i < len → ∃ a x, A = some a ∧ a.block < w.heap.size ∧ w.cell? (a.add i) = some (.int .i64 x)) :
    Calls Tryd.prog 3 #[.slice A len cap] w fun e w' => e = .returned (.bool true) ∧ Below w.heap.size w w' := by
  have hA' := Lib.hid hA
  have HTab := Lib.hid htab
  clear hA htab
  have e500 : decide ((len : Int) ≤ 500) = true := by simp; omega
  go_enter Tryd.func3, Tryd.ntmps3
  go_wp2_with fail
  refine (saneS_any w HTab.out).mono ?_
  rintro e w1 ⟨rfl, hb1⟩
  go_wp2_with fail
  refine (few_any A len cap w1 (by simp only [maxLen]; omega)).mono ?_
  rintro e w1' ⟨rfl, rfl⟩
  rw [e500]
  go_wp2_with fail
  have hA1 : ∀ i, i < len → ∃ a x, A = some a ∧ a.block < w1.heap.size ∧ w1.cell? (a.add i) = some (.int .i64 x) := fun i hi => by
    obtain ⟨a, x, h1, h2, h3⟩ := hA'.out i hi
    exact ⟨a, x, h1, Nat.lt_of_lt_of_le h2 hb1.size, (hb1.cell (by rw [add_block]; exact h2)).trans h3⟩
  refine (new_any A len cap w1 hlen hA1).mono ?_
  rintro e w2 ⟨rfl, hw2⟩
  have hd2 := new_deck A len cap w1 hlen hA1
  rw [hw2] at hd2
  have b_w2 : Below w.heap.size w w2 := by rw [← hw2]; exact hb1.alloc hb1.size _
  have hgw : w.heap.size ≤ w1.heap.size := hb1.size
  clear hw2 hA1 hb1
  generalize w1.heap.size = gg at hd2 hgw ⊢
  have z_w2 := hd2.lt
  have HD2 := Lib.hid hd2
  clear hd2
  go_wp2_with fail
  refine (mkContext_any gg w2 HD2.out).mono ?_
  rintro e w3 ⟨G, v, rfl, hG3, hGok, hGs, hGf, hGnil, hd3, hg3⟩
  obtain ⟨A3, c3, rfl⟩ := hGs.form
  have HD3 := Lib.hid hd3
  have HC3 := Lib.hid (show Ctx gg w3 G (.slice A3 G.length c3) from ⟨hGs.keep (fun b hb => ⟨by have := hb.1; omega, hb.2⟩) (fun _ _ => rfl), hGf, hGok⟩)
  have HGN := Lib.hid hGnil
  have HGO := Lib.hid hGok
  have s_w3 := turn_of hg3
  have b_w3 : Below w.heap.size w w3 := b_w2.trans (s_w3.toBelow (fun k hk e => by omega) b_w2.size)
  clear s_w3 b_w2 
  have z_w3 : gg < w3.heap.size := HD3.out.lt
  have m_w3_w3 := tRf gg w3
  clear hg3 hd3 hGs hGf hGnil hGok
  go_wp2_with fail
  refine (type_any 1 1 gg w3 (by omega) (by omega) (by omega) HD3.out).mono ?_
  rintro e w4 ⟨S, x4, rfl, okS, szS, tyS, hd4, hg4⟩
  obtain ⟨A4, c4, rfl⟩ := tyS.form
  have nS := type_three szS
  have HS := Lib.hid (And.intro okS (Typ.of tyS z_w3))
  have D_w4 := Lib.hid hd4
  have s_w4 := turn_of hg4
  have b_w4 : Below w.heap.size w w4 := b_w3.trans (s_w4.toBelow (fun k hk e => by omega) b_w3.size)
  have m_w3_w4 := m_w3_w3.trans s_w4
  clear s_w4 b_w3 m_w3_w3
  have z_w4 : gg < w4.heap.size := D_w4.out.lt
  have m_w4_w4 := tRf gg w4
  clear tyS hd4 hg4 okS szS
  go_wp2_with fail
  refine (type_any 1 1 gg w4 (by omega) (by omega) (by omega) D_w4.out).mono ?_
  rintro e w5 ⟨U, x5, rfl, okU, szU, tyU, hd5, hg5⟩
  obtain ⟨A5, c5, rfl⟩ := tyU.form
  have nU := type_three szU
  have HU := Lib.hid (And.intro okU (Typ.of tyU z_w4))
  have D_w5 := Lib.hid hd5
  have s_w5 := turn_of hg5
  have b_w5 : Below w.heap.size w w5 := b_w4.trans (s_w5.toBelow (fun k hk e => by omega) b_w4.size)
  have m_w3_w5 := m_w3_w4.trans s_w5
  have m_w4_w5 := m_w4_w4.trans s_w5
  clear s_w5 b_w4 m_w3_w4 m_w4_w4
  have z_w5 : gg < w5.heap.size := D_w5.out.lt
  have m_w5_w5 := tRf gg w5
  clear tyU hd5 hg5 okU szU
  go_wp2_with fail
  refine (type_any 1 1 gg w5 (by omega) (by omega) (by omega) D_w5.out).mono ?_
  rintro e w6 ⟨V, x6, rfl, okV, szV, tyV, hd6, hg6⟩
  obtain ⟨A6, c6, rfl⟩ := tyV.form
  have nV := type_three szV
  have HV := Lib.hid (And.intro okV (Typ.of tyV z_w5))
  have D_w6 := Lib.hid hd6
  have s_w6 := turn_of hg6
  have b_w6 : Below w.heap.size w w6 := b_w5.trans (s_w6.toBelow (fun k hk e => by omega) b_w5.size)
  have m_w3_w6 := m_w3_w5.trans s_w6
  have m_w4_w6 := m_w4_w5.trans s_w6
  have m_w5_w6 := m_w5_w5.trans s_w6
  clear s_w6 b_w5 m_w3_w5 m_w4_w5 m_w5_w5
  have z_w6 : gg < w6.heap.size := D_w6.out.lt
  have m_w6_w6 := tRf gg w6
  clear tyV hd6 hg6 okV szV
  go_upto_region 8 with fail
  have d_W7 := (Deck.box D_w6.out (Obj.cells #[.int .i64 S.kind, .slice A4 S.args.length c4] 30))
  obtain ⟨a_W7, y_W7, k_W7⟩ := new_blk (Below.refl w6.heap.size w6) (Nat.le_refl _) #[.int .i64 S.kind, .slice A4 S.args.length c4] 30
  generalize w6.alloc (Obj.cells #[.int .i64 S.kind, .slice A4 S.args.length c4] 30) = W7 at a_W7 y_W7 k_W7 d_W7 ⊢
  have s_W7 := (tCa gg a_W7)
  have b_W7 : Below w.heap.size w W7 := b_w6.trans (s_W7.toBelow (fun k hk e => by omega) b_w6.size)
  have m_w3_W7 := m_w3_w6.trans s_W7
  have m_w4_W7 := m_w4_w6.trans s_W7
  have m_w5_W7 := m_w5_w6.trans s_W7
  have m_w6_W7 := m_w6_w6.trans s_W7
  clear s_W7 b_w6 m_w3_w6 m_w4_w6 m_w5_w6 m_w6_w6
  have z_W7 : gg < W7.heap.size := by have := z_w6; omega
  have m_W7_W7 := tRf gg W7
  have K_W7 := Lib.hid k_W7
  have D_W7 := Lib.hid d_W7
  have n_W7 : w6.heap.size ≠ gg := by have := z_w6; omega
  have d_W8 := (Deck.box D_W7.out (Obj.cells #[.int .i64 U.kind, .slice A5 U.args.length c5] 30))
  obtain ⟨a_W8, y_W8, k_W8⟩ := new_blk (Below.refl W7.heap.size W7) (Nat.le_refl _) #[.int .i64 U.kind, .slice A5 U.args.length c5] 30
  rw [y_W7] at k_W8
  generalize W7.alloc (Obj.cells #[.int .i64 U.kind, .slice A5 U.args.length c5] 30) = W8 at a_W8 y_W8 k_W8 d_W8 ⊢
  have s_W8 := (tCa gg a_W8)
  have b_W8 : Below w.heap.size w W8 := b_W7.trans (s_W8.toBelow (fun k hk e => by omega) b_W7.size)
  have m_w3_W8 := m_w3_W7.trans s_W8
  have m_w4_W8 := m_w4_W7.trans s_W8
  have m_w5_W8 := m_w5_W7.trans s_W8
  have m_w6_W8 := m_w6_W7.trans s_W8
  have m_W7_W8 := m_W7_W7.trans s_W8
  clear s_W8 b_W7 m_w3_W7 m_w4_W7 m_w5_W7 m_w6_W7 m_W7_W7
  have z_W8 : gg < W8.heap.size := by have := z_W7; omega
  have m_W8_W8 := tRf gg W8
  have K_W8 := Lib.hid k_W8
  have D_W8 := Lib.hid d_W8
  have n_W8 : w6.heap.size + 1 ≠ gg := by have := z_w6; omega
  have d_W9 := (Deck.box D_W8.out (Obj.cells #[.int .i64 V.kind, .slice A6 V.args.length c6] 30))
  obtain ⟨a_W9, y_W9, k_W9⟩ := new_blk (Below.refl W8.heap.size W8) (Nat.le_refl _) #[.int .i64 V.kind, .slice A6 V.args.length c6] 30
  rw [y_W8, y_W7] at k_W9
  generalize W8.alloc (Obj.cells #[.int .i64 V.kind, .slice A6 V.args.length c6] 30) = W9 at a_W9 y_W9 k_W9 d_W9 ⊢
  have s_W9 := (tCa gg a_W9)
  have b_W9 : Below w.heap.size w W9 := b_W8.trans (s_W9.toBelow (fun k hk e => by omega) b_W8.size)
  have m_w3_W9 := m_w3_W8.trans s_W9
  have m_w4_W9 := m_w4_W8.trans s_W9
  have m_w5_W9 := m_w5_W8.trans s_W9
  have m_w6_W9 := m_w6_W8.trans s_W9
  have m_W7_W9 := m_W7_W8.trans s_W9
  have m_W8_W9 := m_W8_W8.trans s_W9
  clear s_W9 b_W8 m_w3_W8 m_w4_W8 m_w5_W8 m_w6_W8 m_W7_W8 m_W8_W8
  have z_W9 : gg < W9.heap.size := by have := z_W8; omega
  have m_W9_W9 := tRf gg W9
  have K_W9 := Lib.hid k_W9
  have D_W9 := Lib.hid d_W9
  have n_W9 : w6.heap.size + 1 + 1 ≠ gg := by have := z_w6; omega
  clear a_W7 a_W8 a_W9 k_W7 k_W8 k_W9 d_W7 d_W8 d_W9 y_W7 y_W8 y_W9
  have KA := Lib.hid (Turn.blk m_W7_W9 K_W7.out n_W7)
  have nfA : ¬ Free gg (W9.heap.size - 1) (w6.heap.size) := by have := KA.out.lt; have := n_W7; unfold Free; omega
  have KB := Lib.hid (Turn.blk m_W8_W9 K_W8.out n_W8)
  have nfB : ¬ Free gg (W9.heap.size - 1) (w6.heap.size + 1) := by have := KB.out.lt; have := n_W8; unfold Free; omega
  have KC := Lib.hid (Turn.blk m_W9_W9 K_W9.out n_W9)
  have nfC : ¬ Free gg (W9.heap.size - 1) (w6.heap.size + 1 + 1) := by have := KC.out.lt; have := n_W9; unfold Free; omega
  have HC9 := Lib.hid (Ctx.turn HC3.out m_w3_W9)
  have HS9 := Lib.hid (Typ.turn HS.out.2 m_w4_W9)
  have HU9 := Lib.hid (Typ.turn HU.out.2 m_w5_W9)
  have HV9 := Lib.hid (Typ.turn HV.out.2 m_w6_W9)
  have HGS := Lib.hid (show ∀ X ∈ G ++ [S], X.ok = true ∧ X.nodes ≤ 3 from fun X hX => by rcases List.mem_append.1 hX with h | h; exact HGO.out X h; rw [List.mem_singleton.1 h]; exact ⟨HS.out.1, nS⟩)
  obtain ⟨YY, hYY⟩ : ∃ Y : Tm → Prop, Y = fun y => Made (G ++ [S]) U (bdN ((3 : Int)).toNat U) (bdO ((3 : Int)).toNat U) y := ⟨_, rfl⟩
  have HYY := Lib.hid hYY
  clear hYY
  go_cut [8] from 33 to 40 (fun x wx => StepR gg YY W9 W9 x wx)
  case first =>
    have QD := Lib.hid (Turn.free (n := W9.heap.size - 1) (tDr gg W9))
    have QDBN := Lib.hid (Turn.free (n := W9.heap.size - 1) (tAl gg W9 (Obj.cells #[.int .i64 S.kind, .slice A4 S.args.length c4] 30)))
    have QDB := Lib.hid (Turn.free (n := W9.heap.size - 1) ((tAl gg W9 (Obj.cells #[.int .i64 S.kind, .slice A4 S.args.length c4] 30)).trans (tDr gg _)))
    have QDLN := Lib.hid (Turn.free (n := W9.heap.size - 1) (tAl gg W9 (Obj.cells #[.int .i64 0, .int .i64 0, .int .i64 0, .slice none 0 0, .slice none 0 0] 34)))
    have QDL := Lib.hid (Turn.free (n := W9.heap.size - 1) ((tAl gg W9 (Obj.cells #[.int .i64 0, .int .i64 0, .int .i64 0, .slice none 0 0, .slice none 0 0] 34)).trans (tDr gg _)))
    have QDBLN := Lib.hid (Turn.free (n := W9.heap.size - 1) ((tAl gg W9 (Obj.cells #[.int .i64 S.kind, .slice A4 S.args.length c4] 30)).trans (tAl gg _ (Obj.cells #[.int .i64 0, .int .i64 0, .int .i64 0, .slice none 0 0, .slice none 0 0] 34))))
    have QDBL := Lib.hid (Turn.free (n := W9.heap.size - 1) (((tAl gg W9 (Obj.cells #[.int .i64 S.kind, .slice A4 S.args.length c4] 30)).trans (tAl gg _ (Obj.cells #[.int .i64 0, .int .i64 0, .int .i64 0, .slice none 0 0, .slice none 0 0] 34))).trans (tDr gg _)))
    have QDLBN := Lib.hid (Turn.free (n := W9.heap.size - 1) ((tAl gg W9 (Obj.cells #[.int .i64 0, .int .i64 0, .int .i64 0, .slice none 0 0, .slice none 0 0] 34)).trans (tAl gg _ (Obj.cells #[.int .i64 S.kind, .slice A4 S.args.length c4] 30))))
    have QDLB := Lib.hid (Turn.free (n := W9.heap.size - 1) (((tAl gg W9 (Obj.cells #[.int .i64 0, .int .i64 0, .int .i64 0, .slice none 0 0, .slice none 0 0] 34)).trans (tAl gg _ (Obj.cells #[.int .i64 S.kind, .slice A4 S.args.length c4] 30))).trans (tDr gg _)))
    have HSK := Lib.hid fun (w' : World) (h : Turn (Free gg (W9.heap.size - 1)) W9 w') => And.intro (h.blk KA.out nfA).facts2.1 (And.intro (h.blk KA.out nfA).facts2.2.1 (And.intro (h.blk KB.out nfB).facts2.1 (h.blk KB.out nfB).facts2.2.1))
    obtain ⟨q0, q1, q2, q3⟩ := HSK.out W9 (Turn.refl _ _)
    go_region_held3 (fun w' => w'.cell? ⟨w6.heap.size, 0, none⟩ = some (.int .i64 S.kind) ∧ w'.cell? ⟨w6.heap.size, 1, none⟩ = some (.slice A4 S.args.length c4) ∧ w'.cell? ⟨w6.heap.size + 1, 0, none⟩ = some (.int .i64 U.kind) ∧ w'.cell? ⟨w6.heap.size + 1, 1, none⟩ = some (.slice A5 U.args.length c5))
      (first | with_reducible exact HSK.out _ QD.out | with_reducible exact HSK.out _ QDBN.out | with_reducible exact HSK.out _ QDB.out | with_reducible exact HSK.out _ QDLN.out | with_reducible exact HSK.out _ QDL.out | with_reducible exact HSK.out _ QDBLN.out | with_reducible exact HSK.out _ QDBL.out | with_reducible exact HSK.out _ QDLBN.out | with_reducible exact HSK.out _ QDLB.out | with_reducible exact HSK.out _ Qp1.out | with_reducible exact HSK.out _ Qp1B.out | with_reducible exact HSK.out _ Qp1L.out | with_reducible exact HSK.out _ Qp1BL.out | with_reducible exact HSK.out _ Qp1LB.out | with_reducible exact HSK.out _ Qp2.out | with_reducible exact HSK.out _ Qp2L.out | with_reducible exact HSK.out _ Qp3.out | with_reducible exact HSK.out _ Qp3L.out | with_reducible exact HSK.out _ QF3.out | with_reducible exact HSK.out _ QS3.out)
      (first
        | (go_at_call 20
           have Pp3 := term_any gg (4 * 3 + U.nodes + 1) (G ++ [S]) U 3 vp2 _ (wp2.alloc (Obj.cells #[.int .i64 0, .int .i64 0, .int .i64 0, .slice none 0 0, .slice none 0 0] 34)) (by simp) (by omega) (by omega) (by simp; omega) HU.out.1 nU (Ctx.turn C2.out (tAl gg _ (Obj.cells #[.int .i64 0, .int .i64 0, .int .i64 0, .slice none 0 0, .slice none 0 0] 34))) (Typ.turn HU9.out (Tp2.out.trans (tAl gg _ (Obj.cells #[.int .i64 0, .int .i64 0, .int .i64 0, .slice none 0 0, .slice none 0 0] 34)))) (Deck.box Kp2.out (Obj.cells #[.int .i64 0, .int .i64 0, .int .i64 0, .slice none 0 0, .slice none 0 0] 34))
           (with_reducible refine Pp3.mono ?_)
           rintro e wp3 ⟨yp3, vp3, rfl, mp3, tp3, kp3, up3⟩
           clear Pp3
           have Tp3 := Lib.hid ((Tp2.out.trans (tAl gg _ (Obj.cells #[.int .i64 0, .int .i64 0, .int .i64 0, .slice none 0 0, .slice none 0 0] 34))).trans (up3))
           have Up3 := Lib.hid ((tAl gg _ (Obj.cells #[.int .i64 0, .int .i64 0, .int .i64 0, .slice none 0 0, .slice none 0 0] 34)).trans (up3))
           obtain ⟨Bp3, ep3, Ap3, cp3, rfl, _⟩ := IsTm.form tp3
           have Kp3 := Lib.hid kp3
           clear kp3
           have KSLp3 := Lib.hid (And.intro (Turn.blk ((up3)) (Blk.new wp2 34 #[.int .i64 0, .int .i64 0, .int .i64 0, .slice none 0 0, .slice none 0 0]) (by have := Tp2.out.size; omega)) (show W9.heap.size ≤ wp2.heap.size by have := Tp2.out.size; omega))
           have Qp3 := Lib.hid (Turn.free (n := W9.heap.size - 1) Tp3.out)
           have Qp3L := Lib.hid (Turn.free (n := W9.heap.size - 1) (Tp3.out.trans (tAl gg _ (Obj.cells #[.int .i64 0, .int .i64 0, .int .i64 0, .slice none 0 0, .slice none 0 0] 34))))
           have HYP := Lib.hid (show YY yp3 by rw [HYY.out]; exact mp3)
           have QF3 := Lib.hid (Turn.free (n := W9.heap.size - 1) (Tp3.out.trans (tAl gg _ (Obj.cells #[.int .i64 yp3.kind, .int .i64 yp3.index, .int .i64 yp3.type.kind, .slice Bp3 yp3.type.args.length ep3, .slice Ap3 yp3.args.length cp3] 34))))
           have ENDN := Lib.hid (step_new (W := W9) (Y := YY) HYP.out ((Tp2.out.trans (tAl gg _ (Obj.cells #[.int .i64 0, .int .i64 0, .int .i64 0, .slice none 0 0, .slice none 0 0] 34)))).size Tp3.out Kp3.out tp3)
           (have END := Lib.hid (step_set (W := W9) (Y := YY) HYP.out KSLp3.out.1 z_W9 KSLp3.out.2 (Nat.le_refl _) (by simp) Tp3.out Kp3.out tp3))
           (have QS3 := Lib.hid (Turn.trans Qp3.out (free_set5b KSLp3.out z_W9 (.int .i64 yp3.kind) (.int .i64 yp3.index) (.int .i64 yp3.type.kind) (.slice Bp3 yp3.type.args.length ep3) (.slice Ap3 yp3.args.length cp3))))
           (obtain ⟨_, _, _, _, _, f0, f1, f2, f3, f4⟩ := KSLp3.out.1.facts5))
        | (go_at_call 20
           have Pp3 := term_any gg (4 * 3 + U.nodes + 1) (G ++ [S]) U 3 vp2 _ wp2 (by simp) (by omega) (by omega) (by simp; omega) HU.out.1 nU C2.out (Typ.turn HU9.out Tp2.out) Kp2.out
           (with_reducible refine Pp3.mono ?_)
           rintro e wp3 ⟨yp3, vp3, rfl, mp3, tp3, kp3, up3⟩
           clear Pp3
           have Tp3 := Lib.hid (Tp2.out.trans (up3))
           have Up3 := Lib.hid (up3)
           obtain ⟨Bp3, ep3, Ap3, cp3, rfl, _⟩ := IsTm.form tp3
           have Kp3 := Lib.hid kp3
           clear kp3
           try (have KSLp3 := Lib.hid (And.intro (Turn.blk Up3.out KSLp2.out.1 (by have := KSLp2.out.2; omega)) KSLp2.out.2))
           have Qp3 := Lib.hid (Turn.free (n := W9.heap.size - 1) Tp3.out)
           have Qp3L := Lib.hid (Turn.free (n := W9.heap.size - 1) (Tp3.out.trans (tAl gg _ (Obj.cells #[.int .i64 0, .int .i64 0, .int .i64 0, .slice none 0 0, .slice none 0 0] 34))))
           have HYP := Lib.hid (show YY yp3 by rw [HYY.out]; exact mp3)
           have QF3 := Lib.hid (Turn.free (n := W9.heap.size - 1) (Tp3.out.trans (tAl gg _ (Obj.cells #[.int .i64 yp3.kind, .int .i64 yp3.index, .int .i64 yp3.type.kind, .slice Bp3 yp3.type.args.length ep3, .slice Ap3 yp3.args.length cp3] 34))))
           have ENDN := Lib.hid (step_new (W := W9) (Y := YY) HYP.out (Tp2.out).size Tp3.out Kp3.out tp3)
           try (have END := Lib.hid (step_set (W := W9) (Y := YY) HYP.out KSLp3.out.1 z_W9 KSLp3.out.2 (Nat.le_refl _) (by have := KSLp2.out.1.lt; omega) Tp3.out Kp3.out tp3))
           try (have QS3 := Lib.hid (Turn.trans Qp3.out (free_set5b KSLp3.out z_W9 (.int .i64 yp3.kind) (.int .i64 yp3.index) (.int .i64 yp3.type.kind) (.slice Bp3 yp3.type.args.length ep3) (.slice Ap3 yp3.args.length cp3))))
           try (obtain ⟨_, _, _, _, _, f0, f1, f2, f3, f4⟩ := KSLp3.out.1.facts5))
        | (refine step_append_ty (w := (wp1.alloc (Obj.cells #[.int .i64 0, .int .i64 0, .int .i64 0, .slice none 0 0, .slice none 0 0] 34))) (by rfl) (.tmp 35) (.tmp 37) (by rfl) (v := vp1) (u := _) (l := G) (m := [S]) (S := Good (· = gg) W9) (base := W9.heap.size) (by rfl) (by rfl) (Op1.out.below (below_box wp1 (Obj.cells #[.int .i64 0, .int .i64 0, .int .i64 0, .slice none 0 0, .slice none 0 0] 34))) (src_one (Turn.blk (tAl gg _ (Obj.cells #[.int .i64 0, .int .i64 0, .int .i64 0, .slice none 0 0, .slice none 0 0] 34)) KSBp1.out.1 (by have := KSBp1.out.2; omega)) HS9.out (Tp1.out.trans (tAl gg _ (Obj.cells #[.int .i64 0, .int .i64 0, .int .i64 0, .slice none 0 0, .slice none 0 0] 34))) (fun b e => (Op1.out.lt b e).1)) (by simp; omega) ((Tp1.out.trans (tAl gg _ (Obj.cells #[.int .i64 0, .int .i64 0, .int .i64 0, .slice none 0 0, .slice none 0 0] 34)))).size ?_
           intro vp2 wp2 op2 rp2 hp2 bp2
           have Tp2 := Lib.hid (Turn.far (Tp1.out.trans (tAl gg _ (Obj.cells #[.int .i64 0, .int .i64 0, .int .i64 0, .slice none 0 0, .slice none 0 0] 34))) bp2)
           have Op2 := Lib.hid (show TyR.Own (Good (· = gg) W9) W9.heap.size vp2 (G ++ [S]) wp2 from op2)
           have Kp2 := Lib.hid (((Deck.box Kp1.out (Obj.cells #[.int .i64 0, .int .i64 0, .int .i64 0, .slice none 0 0, .slice none 0 0] 34))).grown rp2 (fun k e => by have := (Op1.out.lt k e).1; omega))
           have KSLp2 := Lib.hid (And.intro (Blk.grownNe (Blk.new wp1 34 #[.int .i64 0, .int .i64 0, .int .i64 0, .slice none 0 0, .slice none 0 0]) rp2 (own_far Op1.out (by omega))) (show W9.heap.size ≤ wp1.heap.size by have := Tp1.out.size; omega))
           have Qp2 := Lib.hid (Turn.free (n := W9.heap.size - 1) Tp2.out)
           have Qp2L := Lib.hid (Turn.free (n := W9.heap.size - 1) (Tp2.out.trans (tAl gg _ (Obj.cells #[.int .i64 0, .int .i64 0, .int .i64 0, .slice none 0 0, .slice none 0 0] 34))))
           have C2 := Lib.hid (own_ctx Op2.out z_W9 HGS.out)
           clear op2 rp2 hp2 bp2)
        | (refine step_append_ty (w := wp1) (by rfl) (.tmp 35) (.tmp 37) (by rfl) (v := vp1) (u := _) (l := G) (m := [S]) (S := Good (· = gg) W9) (base := W9.heap.size) (by rfl) (by rfl) Op1.out (src_one KSBp1.out.1 HS9.out Tp1.out (fun b e => (Op1.out.lt b e).1)) (by simp; omega) (Tp1.out).size ?_
           intro vp2 wp2 op2 rp2 hp2 bp2
           have Tp2 := Lib.hid (Turn.far Tp1.out bp2)
           have Op2 := Lib.hid (show TyR.Own (Good (· = gg) W9) W9.heap.size vp2 (G ++ [S]) wp2 from op2)
           have Kp2 := Lib.hid ((Kp1.out).grown rp2 (fun k e => by have := (Op1.out.lt k e).1; omega))
           try (have KSLp2 := Lib.hid (And.intro (Blk.grownNe (Turn.blk (tRf gg wp1) KSLp1.out.1 (by have := KSLp1.out.2; omega)) rp2 NELp1.out) KSLp1.out.2))
           have Qp2 := Lib.hid (Turn.free (n := W9.heap.size - 1) Tp2.out)
           have Qp2L := Lib.hid (Turn.free (n := W9.heap.size - 1) (Tp2.out.trans (tAl gg _ (Obj.cells #[.int .i64 0, .int .i64 0, .int .i64 0, .slice none 0 0, .slice none 0 0] 34))))
           have C2 := Lib.hid (own_ctx Op2.out z_W9 HGS.out)
           clear op2 rp2 hp2 bp2)
        | (refine step_append_ty (w := ((wp1.alloc (Obj.cells #[.int .i64 0, .int .i64 0, .int .i64 0, .slice none 0 0, .slice none 0 0] 34)).alloc (Obj.cells #[.int .i64 S.kind, .slice A4 S.args.length c4] 30))) (by rfl) (.tmp 35) (.tmp 37) (by rfl) (v := vp1) (u := .slice (some ⟨wp1.heap.size + 1, 0, none⟩) 1 1) (l := G) (m := [S]) (S := Good (· = gg) W9) (base := W9.heap.size) (by rfl) (by rfl) ((Op1.out.below (below_box wp1 (Obj.cells #[.int .i64 0, .int .i64 0, .int .i64 0, .slice none 0 0, .slice none 0 0] 34))).below (below_box _ (Obj.cells #[.int .i64 S.kind, .slice A4 S.args.length c4] 30))) (src_one (blk_new1 wp1 (Obj.cells #[.int .i64 0, .int .i64 0, .int .i64 0, .slice none 0 0, .slice none 0 0] 34) #[.int .i64 S.kind, .slice A4 S.args.length c4] 30) HS9.out ((Tp1.out.trans (tAl gg _ (Obj.cells #[.int .i64 0, .int .i64 0, .int .i64 0, .slice none 0 0, .slice none 0 0] 34))).trans (tAl gg _ (Obj.cells #[.int .i64 S.kind, .slice A4 S.args.length c4] 30))) (fun b e => (Op1.out.lt b e).1)) (by simp; omega) (((Tp1.out.trans (tAl gg _ (Obj.cells #[.int .i64 0, .int .i64 0, .int .i64 0, .slice none 0 0, .slice none 0 0] 34))).trans (tAl gg _ (Obj.cells #[.int .i64 S.kind, .slice A4 S.args.length c4] 30)))).size ?_
           intro vp2 wp2 op2 rp2 hp2 bp2
           have Tp2 := Lib.hid (Turn.far ((Tp1.out.trans (tAl gg _ (Obj.cells #[.int .i64 0, .int .i64 0, .int .i64 0, .slice none 0 0, .slice none 0 0] 34))).trans (tAl gg _ (Obj.cells #[.int .i64 S.kind, .slice A4 S.args.length c4] 30))) bp2)
           have Op2 := Lib.hid (show TyR.Own (Good (· = gg) W9) W9.heap.size vp2 (G ++ [S]) wp2 from op2)
           have Kp2 := Lib.hid (((Deck.box (Deck.box Kp1.out (Obj.cells #[.int .i64 0, .int .i64 0, .int .i64 0, .slice none 0 0, .slice none 0 0] 34)) (Obj.cells #[.int .i64 S.kind, .slice A4 S.args.length c4] 30))).grown rp2 (fun k e => by have := (Op1.out.lt k e).1; omega))
           have KSLp2 := Lib.hid (And.intro (Blk.grownNe (Turn.blk (tAl gg _ (Obj.cells #[.int .i64 S.kind, .slice A4 S.args.length c4] 30)) (Blk.new wp1 34 #[.int .i64 0, .int .i64 0, .int .i64 0, .slice none 0 0, .slice none 0 0]) (by have := Tp1.out.size; omega)) rp2 (own_far Op1.out (by omega))) (show W9.heap.size ≤ wp1.heap.size by have := Tp1.out.size; omega))
           have Qp2 := Lib.hid (Turn.free (n := W9.heap.size - 1) Tp2.out)
           have Qp2L := Lib.hid (Turn.free (n := W9.heap.size - 1) (Tp2.out.trans (tAl gg _ (Obj.cells #[.int .i64 0, .int .i64 0, .int .i64 0, .slice none 0 0, .slice none 0 0] 34))))
           have C2 := Lib.hid (own_ctx Op2.out z_W9 HGS.out)
           clear op2 rp2 hp2 bp2)
        | (refine step_append_ty (w := ((wp1.alloc (Obj.cells #[.int .i64 S.kind, .slice A4 S.args.length c4] 30)).alloc (Obj.cells #[.int .i64 0, .int .i64 0, .int .i64 0, .slice none 0 0, .slice none 0 0] 34))) (by rfl) (.tmp 35) (.tmp 37) (by rfl) (v := vp1) (u := .slice (some ⟨wp1.heap.size, 0, none⟩) 1 1) (l := G) (m := [S]) (S := Good (· = gg) W9) (base := W9.heap.size) (by rfl) (by rfl) ((Op1.out.below (below_box wp1 (Obj.cells #[.int .i64 S.kind, .slice A4 S.args.length c4] 30))).below (below_box _ (Obj.cells #[.int .i64 0, .int .i64 0, .int .i64 0, .slice none 0 0, .slice none 0 0] 34))) (src_one (Turn.blk (tAl gg _ (Obj.cells #[.int .i64 0, .int .i64 0, .int .i64 0, .slice none 0 0, .slice none 0 0] 34)) (Blk.new wp1 30 #[.int .i64 S.kind, .slice A4 S.args.length c4]) (by have := Tp1.out.size; omega)) HS9.out ((Tp1.out.trans (tAl gg _ (Obj.cells #[.int .i64 S.kind, .slice A4 S.args.length c4] 30))).trans (tAl gg _ (Obj.cells #[.int .i64 0, .int .i64 0, .int .i64 0, .slice none 0 0, .slice none 0 0] 34))) (fun b e => (Op1.out.lt b e).1)) (by simp; omega) (((Tp1.out.trans (tAl gg _ (Obj.cells #[.int .i64 S.kind, .slice A4 S.args.length c4] 30))).trans (tAl gg _ (Obj.cells #[.int .i64 0, .int .i64 0, .int .i64 0, .slice none 0 0, .slice none 0 0] 34)))).size ?_
           intro vp2 wp2 op2 rp2 hp2 bp2
           have Tp2 := Lib.hid (Turn.far ((Tp1.out.trans (tAl gg _ (Obj.cells #[.int .i64 S.kind, .slice A4 S.args.length c4] 30))).trans (tAl gg _ (Obj.cells #[.int .i64 0, .int .i64 0, .int .i64 0, .slice none 0 0, .slice none 0 0] 34))) bp2)
           have Op2 := Lib.hid (show TyR.Own (Good (· = gg) W9) W9.heap.size vp2 (G ++ [S]) wp2 from op2)
           have Kp2 := Lib.hid (((Deck.box (Deck.box Kp1.out (Obj.cells #[.int .i64 S.kind, .slice A4 S.args.length c4] 30)) (Obj.cells #[.int .i64 0, .int .i64 0, .int .i64 0, .slice none 0 0, .slice none 0 0] 34))).grown rp2 (fun k e => by have := (Op1.out.lt k e).1; omega))
           have KSLp2 := Lib.hid (And.intro (Blk.grownNe (blk_new1 wp1 (Obj.cells #[.int .i64 S.kind, .slice A4 S.args.length c4] 30) #[.int .i64 0, .int .i64 0, .int .i64 0, .slice none 0 0, .slice none 0 0] 34) rp2 (own_far Op1.out (by omega))) (show W9.heap.size ≤ wp1.heap.size + 1 by have := Tp1.out.size; omega))
           have Qp2 := Lib.hid (Turn.free (n := W9.heap.size - 1) Tp2.out)
           have Qp2L := Lib.hid (Turn.free (n := W9.heap.size - 1) (Tp2.out.trans (tAl gg _ (Obj.cells #[.int .i64 0, .int .i64 0, .int .i64 0, .slice none 0 0, .slice none 0 0] 34))))
           have C2 := Lib.hid (own_ctx Op2.out z_W9 HGS.out)
           clear op2 rp2 hp2 bp2)
        | (refine step_append_ty (w := (wp1.alloc (Obj.cells #[.int .i64 S.kind, .slice A4 S.args.length c4] 30))) (by rfl) (.tmp 35) (.tmp 37) (by rfl) (v := vp1) (u := .slice (some ⟨wp1.heap.size, 0, none⟩) 1 1) (l := G) (m := [S]) (S := Good (· = gg) W9) (base := W9.heap.size) (by rfl) (by rfl) (Op1.out.below (below_box wp1 (Obj.cells #[.int .i64 S.kind, .slice A4 S.args.length c4] 30))) (src_one (Blk.new wp1 30 #[.int .i64 S.kind, .slice A4 S.args.length c4]) HS9.out (Tp1.out.trans (tAl gg _ (Obj.cells #[.int .i64 S.kind, .slice A4 S.args.length c4] 30))) (fun b e => (Op1.out.lt b e).1)) (by simp; omega) ((Tp1.out.trans (tAl gg _ (Obj.cells #[.int .i64 S.kind, .slice A4 S.args.length c4] 30)))).size ?_
           intro vp2 wp2 op2 rp2 hp2 bp2
           have Tp2 := Lib.hid (Turn.far (Tp1.out.trans (tAl gg _ (Obj.cells #[.int .i64 S.kind, .slice A4 S.args.length c4] 30))) bp2)
           have Op2 := Lib.hid (show TyR.Own (Good (· = gg) W9) W9.heap.size vp2 (G ++ [S]) wp2 from op2)
           have Kp2 := Lib.hid (((Deck.box Kp1.out (Obj.cells #[.int .i64 S.kind, .slice A4 S.args.length c4] 30))).grown rp2 (fun k e => by have := (Op1.out.lt k e).1; omega))
           try (have KSLp2 := Lib.hid (And.intro (Blk.grownNe (Turn.blk (tAl gg _ (Obj.cells #[.int .i64 S.kind, .slice A4 S.args.length c4] 30)) KSLp1.out.1 (by have := KSLp1.out.2; omega)) rp2 NELp1.out) KSLp1.out.2))
           have Qp2 := Lib.hid (Turn.free (n := W9.heap.size - 1) Tp2.out)
           have Qp2L := Lib.hid (Turn.free (n := W9.heap.size - 1) (Tp2.out.trans (tAl gg _ (Obj.cells #[.int .i64 0, .int .i64 0, .int .i64 0, .slice none 0 0, .slice none 0 0] 34))))
           have C2 := Lib.hid (own_ctx Op2.out z_W9 HGS.out)
           clear op2 rp2 hp2 bp2)
        | (refine step_append_ty (w := ((W9.alloc (Obj.cells #[.int .i64 0, .int .i64 0, .int .i64 0, .slice none 0 0, .slice none 0 0] 34)).alloc (Obj.cells #[.int .i64 S.kind, .slice A4 S.args.length c4] 30)).drew) (by rfl) (.const (.slice none 0 0)) (.tmp 34) (by rfl) (v := .slice none 0 0) (u := .slice A3 G.length c3) (l := []) (m := G) (S := Good (· = gg) W9) (base := W9.heap.size) (by rfl) (by rfl) (Rep.Own.nil (R := TyR) _ _ _) (src_ctx HC9.out (((tAl gg _ (Obj.cells #[.int .i64 0, .int .i64 0, .int .i64 0, .slice none 0 0, .slice none 0 0] 34)).trans (tAl gg _ (Obj.cells #[.int .i64 S.kind, .slice A4 S.args.length c4] 30))).trans (tDr gg _)) (by simp [Value.ownBlock])) (by simp; omega) ((((tAl gg _ (Obj.cells #[.int .i64 0, .int .i64 0, .int .i64 0, .slice none 0 0, .slice none 0 0] 34)).trans (tAl gg _ (Obj.cells #[.int .i64 S.kind, .slice A4 S.args.length c4] 30))).trans (tDr gg _))).size ?_
           intro vp1 wp1 op1 rp1 hp1 bp1
           have Tp1 := Lib.hid (Turn.far (((tAl gg _ (Obj.cells #[.int .i64 0, .int .i64 0, .int .i64 0, .slice none 0 0, .slice none 0 0] 34)).trans (tAl gg _ (Obj.cells #[.int .i64 S.kind, .slice A4 S.args.length c4] 30))).trans (tDr gg _)) bp1)
           have Op1 := Lib.hid (show TyR.Own (Good (· = gg) W9) W9.heap.size vp1 ([] ++ G) wp1 from op1)
           have Kp1 := Lib.hid (((Deck.drewd (Deck.box (Deck.box D_W9.out (Obj.cells #[.int .i64 0, .int .i64 0, .int .i64 0, .slice none 0 0, .slice none 0 0] 34)) (Obj.cells #[.int .i64 S.kind, .slice A4 S.args.length c4] 30)))).grown rp1 (by simp [Value.ownBlock]))
           have KSBp1 := Lib.hid (And.intro (Blk.grownNe (Turn.blk (tDr gg _) (blk_new1 W9 (Obj.cells #[.int .i64 0, .int .i64 0, .int .i64 0, .slice none 0 0, .slice none 0 0] 34) #[.int .i64 S.kind, .slice A4 S.args.length c4] 30) (by have := (Nat.le_refl W9.heap.size); omega)) rp1 (by simp [Value.ownBlock])) (show W9.heap.size ≤ W9.heap.size + 1 by have := (Nat.le_refl W9.heap.size); omega))
           have NEBp1 := Lib.hid (own_ne hp1 rfl (show W9.heap.size + 1 < _ by simp <;> omega))
           have KSLp1 := Lib.hid (And.intro (Blk.grownNe (Turn.blk ((tAl gg _ (Obj.cells #[.int .i64 S.kind, .slice A4 S.args.length c4] 30)).trans (tDr gg _)) (Blk.new W9 34 #[.int .i64 0, .int .i64 0, .int .i64 0, .slice none 0 0, .slice none 0 0]) (by have := (Nat.le_refl W9.heap.size); omega)) rp1 (by simp [Value.ownBlock])) (show W9.heap.size ≤ W9.heap.size by have := (Nat.le_refl W9.heap.size); omega))
           have NELp1 := Lib.hid (own_ne hp1 rfl (show W9.heap.size < _ by simp <;> omega))
           have Qp1 := Lib.hid (Turn.free (n := W9.heap.size - 1) Tp1.out)
           have Qp1B := Lib.hid (Turn.free (n := W9.heap.size - 1) (Tp1.out.trans (tAl gg _ (Obj.cells #[.int .i64 S.kind, .slice A4 S.args.length c4] 30))))
           have Qp1L := Lib.hid (Turn.free (n := W9.heap.size - 1) (Tp1.out.trans (tAl gg _ (Obj.cells #[.int .i64 0, .int .i64 0, .int .i64 0, .slice none 0 0, .slice none 0 0] 34))))
           have Qp1BL := Lib.hid (Turn.free (n := W9.heap.size - 1) ((Tp1.out.trans (tAl gg _ (Obj.cells #[.int .i64 S.kind, .slice A4 S.args.length c4] 30))).trans (tAl gg _ (Obj.cells #[.int .i64 0, .int .i64 0, .int .i64 0, .slice none 0 0, .slice none 0 0] 34))))
           have Qp1LB := Lib.hid (Turn.free (n := W9.heap.size - 1) ((Tp1.out.trans (tAl gg _ (Obj.cells #[.int .i64 0, .int .i64 0, .int .i64 0, .slice none 0 0, .slice none 0 0] 34))).trans (tAl gg _ (Obj.cells #[.int .i64 S.kind, .slice A4 S.args.length c4] 30))))
           clear op1 rp1 hp1 bp1)
        | (refine step_append_ty (w := ((W9.alloc (Obj.cells #[.int .i64 S.kind, .slice A4 S.args.length c4] 30)).alloc (Obj.cells #[.int .i64 0, .int .i64 0, .int .i64 0, .slice none 0 0, .slice none 0 0] 34)).drew) (by rfl) (.const (.slice none 0 0)) (.tmp 34) (by rfl) (v := .slice none 0 0) (u := .slice A3 G.length c3) (l := []) (m := G) (S := Good (· = gg) W9) (base := W9.heap.size) (by rfl) (by rfl) (Rep.Own.nil (R := TyR) _ _ _) (src_ctx HC9.out (((tAl gg _ (Obj.cells #[.int .i64 S.kind, .slice A4 S.args.length c4] 30)).trans (tAl gg _ (Obj.cells #[.int .i64 0, .int .i64 0, .int .i64 0, .slice none 0 0, .slice none 0 0] 34))).trans (tDr gg _)) (by simp [Value.ownBlock])) (by simp; omega) ((((tAl gg _ (Obj.cells #[.int .i64 S.kind, .slice A4 S.args.length c4] 30)).trans (tAl gg _ (Obj.cells #[.int .i64 0, .int .i64 0, .int .i64 0, .slice none 0 0, .slice none 0 0] 34))).trans (tDr gg _))).size ?_
           intro vp1 wp1 op1 rp1 hp1 bp1
           have Tp1 := Lib.hid (Turn.far (((tAl gg _ (Obj.cells #[.int .i64 S.kind, .slice A4 S.args.length c4] 30)).trans (tAl gg _ (Obj.cells #[.int .i64 0, .int .i64 0, .int .i64 0, .slice none 0 0, .slice none 0 0] 34))).trans (tDr gg _)) bp1)
           have Op1 := Lib.hid (show TyR.Own (Good (· = gg) W9) W9.heap.size vp1 ([] ++ G) wp1 from op1)
           have Kp1 := Lib.hid (((Deck.drewd (Deck.box (Deck.box D_W9.out (Obj.cells #[.int .i64 S.kind, .slice A4 S.args.length c4] 30)) (Obj.cells #[.int .i64 0, .int .i64 0, .int .i64 0, .slice none 0 0, .slice none 0 0] 34)))).grown rp1 (by simp [Value.ownBlock]))
           have KSBp1 := Lib.hid (And.intro (Blk.grownNe (Turn.blk ((tAl gg _ (Obj.cells #[.int .i64 0, .int .i64 0, .int .i64 0, .slice none 0 0, .slice none 0 0] 34)).trans (tDr gg _)) (Blk.new W9 30 #[.int .i64 S.kind, .slice A4 S.args.length c4]) (by have := (Nat.le_refl W9.heap.size); omega)) rp1 (by simp [Value.ownBlock])) (show W9.heap.size ≤ W9.heap.size by have := (Nat.le_refl W9.heap.size); omega))
           have NEBp1 := Lib.hid (own_ne hp1 rfl (show W9.heap.size < _ by simp <;> omega))
           have KSLp1 := Lib.hid (And.intro (Blk.grownNe (Turn.blk (tDr gg _) (blk_new1 W9 (Obj.cells #[.int .i64 S.kind, .slice A4 S.args.length c4] 30) #[.int .i64 0, .int .i64 0, .int .i64 0, .slice none 0 0, .slice none 0 0] 34) (by have := (Nat.le_refl W9.heap.size); omega)) rp1 (by simp [Value.ownBlock])) (show W9.heap.size ≤ W9.heap.size + 1 by have := (Nat.le_refl W9.heap.size); omega))
           have NELp1 := Lib.hid (own_ne hp1 rfl (show W9.heap.size + 1 < _ by simp <;> omega))
           have Qp1 := Lib.hid (Turn.free (n := W9.heap.size - 1) Tp1.out)
           have Qp1B := Lib.hid (Turn.free (n := W9.heap.size - 1) (Tp1.out.trans (tAl gg _ (Obj.cells #[.int .i64 S.kind, .slice A4 S.args.length c4] 30))))
           have Qp1L := Lib.hid (Turn.free (n := W9.heap.size - 1) (Tp1.out.trans (tAl gg _ (Obj.cells #[.int .i64 0, .int .i64 0, .int .i64 0, .slice none 0 0, .slice none 0 0] 34))))
           have Qp1BL := Lib.hid (Turn.free (n := W9.heap.size - 1) ((Tp1.out.trans (tAl gg _ (Obj.cells #[.int .i64 S.kind, .slice A4 S.args.length c4] 30))).trans (tAl gg _ (Obj.cells #[.int .i64 0, .int .i64 0, .int .i64 0, .slice none 0 0, .slice none 0 0] 34))))
           have Qp1LB := Lib.hid (Turn.free (n := W9.heap.size - 1) ((Tp1.out.trans (tAl gg _ (Obj.cells #[.int .i64 0, .int .i64 0, .int .i64 0, .slice none 0 0, .slice none 0 0] 34))).trans (tAl gg _ (Obj.cells #[.int .i64 S.kind, .slice A4 S.args.length c4] 30))))
           clear op1 rp1 hp1 bp1)
        | (refine step_append_ty (w := (W9.alloc (Obj.cells #[.int .i64 0, .int .i64 0, .int .i64 0, .slice none 0 0, .slice none 0 0] 34)).drew) (by rfl) (.const (.slice none 0 0)) (.tmp 34) (by rfl) (v := .slice none 0 0) (u := .slice A3 G.length c3) (l := []) (m := G) (S := Good (· = gg) W9) (base := W9.heap.size) (by rfl) (by rfl) (Rep.Own.nil (R := TyR) _ _ _) (src_ctx HC9.out ((tAl gg _ (Obj.cells #[.int .i64 0, .int .i64 0, .int .i64 0, .slice none 0 0, .slice none 0 0] 34)).trans (tDr gg _)) (by simp [Value.ownBlock])) (by simp; omega) (((tAl gg _ (Obj.cells #[.int .i64 0, .int .i64 0, .int .i64 0, .slice none 0 0, .slice none 0 0] 34)).trans (tDr gg _))).size ?_
           intro vp1 wp1 op1 rp1 hp1 bp1
           have Tp1 := Lib.hid (Turn.far ((tAl gg _ (Obj.cells #[.int .i64 0, .int .i64 0, .int .i64 0, .slice none 0 0, .slice none 0 0] 34)).trans (tDr gg _)) bp1)
           have Op1 := Lib.hid (show TyR.Own (Good (· = gg) W9) W9.heap.size vp1 ([] ++ G) wp1 from op1)
           have Kp1 := Lib.hid (((Deck.drewd (Deck.box D_W9.out (Obj.cells #[.int .i64 0, .int .i64 0, .int .i64 0, .slice none 0 0, .slice none 0 0] 34)))).grown rp1 (by simp [Value.ownBlock]))
           have KSLp1 := Lib.hid (And.intro (Blk.grownNe (Turn.blk (tDr gg _) (Blk.new W9 34 #[.int .i64 0, .int .i64 0, .int .i64 0, .slice none 0 0, .slice none 0 0]) (by have := (Nat.le_refl W9.heap.size); omega)) rp1 (by simp [Value.ownBlock])) (show W9.heap.size ≤ W9.heap.size by have := (Nat.le_refl W9.heap.size); omega))
           have NELp1 := Lib.hid (own_ne hp1 rfl (show W9.heap.size < _ by simp <;> omega))
           have Qp1 := Lib.hid (Turn.free (n := W9.heap.size - 1) Tp1.out)
           have Qp1B := Lib.hid (Turn.free (n := W9.heap.size - 1) (Tp1.out.trans (tAl gg _ (Obj.cells #[.int .i64 S.kind, .slice A4 S.args.length c4] 30))))
           have Qp1L := Lib.hid (Turn.free (n := W9.heap.size - 1) (Tp1.out.trans (tAl gg _ (Obj.cells #[.int .i64 0, .int .i64 0, .int .i64 0, .slice none 0 0, .slice none 0 0] 34))))
           have Qp1BL := Lib.hid (Turn.free (n := W9.heap.size - 1) ((Tp1.out.trans (tAl gg _ (Obj.cells #[.int .i64 S.kind, .slice A4 S.args.length c4] 30))).trans (tAl gg _ (Obj.cells #[.int .i64 0, .int .i64 0, .int .i64 0, .slice none 0 0, .slice none 0 0] 34))))
           have Qp1LB := Lib.hid (Turn.free (n := W9.heap.size - 1) ((Tp1.out.trans (tAl gg _ (Obj.cells #[.int .i64 0, .int .i64 0, .int .i64 0, .slice none 0 0, .slice none 0 0] 34))).trans (tAl gg _ (Obj.cells #[.int .i64 S.kind, .slice A4 S.args.length c4] 30))))
           clear op1 rp1 hp1 bp1)
        | (refine step_append_ty (w := (W9.alloc (Obj.cells #[.int .i64 S.kind, .slice A4 S.args.length c4] 30)).drew) (by rfl) (.const (.slice none 0 0)) (.tmp 34) (by rfl) (v := .slice none 0 0) (u := .slice A3 G.length c3) (l := []) (m := G) (S := Good (· = gg) W9) (base := W9.heap.size) (by rfl) (by rfl) (Rep.Own.nil (R := TyR) _ _ _) (src_ctx HC9.out ((tAl gg _ (Obj.cells #[.int .i64 S.kind, .slice A4 S.args.length c4] 30)).trans (tDr gg _)) (by simp [Value.ownBlock])) (by simp; omega) (((tAl gg _ (Obj.cells #[.int .i64 S.kind, .slice A4 S.args.length c4] 30)).trans (tDr gg _))).size ?_
           intro vp1 wp1 op1 rp1 hp1 bp1
           have Tp1 := Lib.hid (Turn.far ((tAl gg _ (Obj.cells #[.int .i64 S.kind, .slice A4 S.args.length c4] 30)).trans (tDr gg _)) bp1)
           have Op1 := Lib.hid (show TyR.Own (Good (· = gg) W9) W9.heap.size vp1 ([] ++ G) wp1 from op1)
           have Kp1 := Lib.hid (((Deck.drewd (Deck.box D_W9.out (Obj.cells #[.int .i64 S.kind, .slice A4 S.args.length c4] 30)))).grown rp1 (by simp [Value.ownBlock]))
           have KSBp1 := Lib.hid (And.intro (Blk.grownNe (Turn.blk (tDr gg _) (Blk.new W9 30 #[.int .i64 S.kind, .slice A4 S.args.length c4]) (by have := (Nat.le_refl W9.heap.size); omega)) rp1 (by simp [Value.ownBlock])) (show W9.heap.size ≤ W9.heap.size by have := (Nat.le_refl W9.heap.size); omega))
           have NEBp1 := Lib.hid (own_ne hp1 rfl (show W9.heap.size < _ by simp <;> omega))
           have Qp1 := Lib.hid (Turn.free (n := W9.heap.size - 1) Tp1.out)
           have Qp1B := Lib.hid (Turn.free (n := W9.heap.size - 1) (Tp1.out.trans (tAl gg _ (Obj.cells #[.int .i64 S.kind, .slice A4 S.args.length c4] 30))))
           have Qp1L := Lib.hid (Turn.free (n := W9.heap.size - 1) (Tp1.out.trans (tAl gg _ (Obj.cells #[.int .i64 0, .int .i64 0, .int .i64 0, .slice none 0 0, .slice none 0 0] 34))))
           have Qp1BL := Lib.hid (Turn.free (n := W9.heap.size - 1) ((Tp1.out.trans (tAl gg _ (Obj.cells #[.int .i64 S.kind, .slice A4 S.args.length c4] 30))).trans (tAl gg _ (Obj.cells #[.int .i64 0, .int .i64 0, .int .i64 0, .slice none 0 0, .slice none 0 0] 34))))
           have Qp1LB := Lib.hid (Turn.free (n := W9.heap.size - 1) ((Tp1.out.trans (tAl gg _ (Obj.cells #[.int .i64 0, .int .i64 0, .int .i64 0, .slice none 0 0, .slice none 0 0] 34))).trans (tAl gg _ (Obj.cells #[.int .i64 S.kind, .slice A4 S.args.length c4] 30))))
           clear op1 rp1 hp1 bp1)
        | (refine step_append_ty (w := W9.drew) (by rfl) (.const (.slice none 0 0)) (.tmp 34) (by rfl) (v := .slice none 0 0) (u := .slice A3 G.length c3) (l := []) (m := G) (S := Good (· = gg) W9) (base := W9.heap.size) (by rfl) (by rfl) (Rep.Own.nil (R := TyR) _ _ _) (src_ctx HC9.out (tDr gg _) (by simp [Value.ownBlock])) (by simp; omega) ((tDr gg _)).size ?_
           intro vp1 wp1 op1 rp1 hp1 bp1
           have Tp1 := Lib.hid (Turn.far (tDr gg _) bp1)
           have Op1 := Lib.hid (show TyR.Own (Good (· = gg) W9) W9.heap.size vp1 ([] ++ G) wp1 from op1)
           have Kp1 := Lib.hid (((Deck.drewd D_W9.out)).grown rp1 (by simp [Value.ownBlock]))
           have Qp1 := Lib.hid (Turn.free (n := W9.heap.size - 1) Tp1.out)
           have Qp1B := Lib.hid (Turn.free (n := W9.heap.size - 1) (Tp1.out.trans (tAl gg _ (Obj.cells #[.int .i64 S.kind, .slice A4 S.args.length c4] 30))))
           have Qp1L := Lib.hid (Turn.free (n := W9.heap.size - 1) (Tp1.out.trans (tAl gg _ (Obj.cells #[.int .i64 0, .int .i64 0, .int .i64 0, .slice none 0 0, .slice none 0 0] 34))))
           have Qp1BL := Lib.hid (Turn.free (n := W9.heap.size - 1) ((Tp1.out.trans (tAl gg _ (Obj.cells #[.int .i64 S.kind, .slice A4 S.args.length c4] 30))).trans (tAl gg _ (Obj.cells #[.int .i64 0, .int .i64 0, .int .i64 0, .slice none 0 0, .slice none 0 0] 34))))
           have Qp1LB := Lib.hid (Turn.free (n := W9.heap.size - 1) ((Tp1.out.trans (tAl gg _ (Obj.cells #[.int .i64 0, .int .i64 0, .int .i64 0, .slice none 0 0, .slice none 0 0] 34))).trans (tAl gg _ (Obj.cells #[.int .i64 S.kind, .slice A4 S.args.length c4] 30))))
           clear op1 rp1 hp1 bp1))
    all_goals (go_wp2_with fail; go_meet; first | exact END.out | exact ENDN.out)
  case rest =>
    obtain ⟨q, x, Bx, ex, Ax, cx, rfl, hx, kx, hq, tx, dx, ux⟩ := hcut
    obtain ⟨wd, hwd⟩ : ∃ x, x = wc := ⟨_, rfl⟩
    subst hwd
    rw [HYY.out] at hx
    have HX := Lib.hid hx
    have bx : x.bulk ≤ 12000 := hx.bulk_le (bdN_le _ (by simp))
    have KX := Lib.hid kx
    have XX := Lib.hid (show Trm W9.heap.size wd x _ from IsTm.keep (fun b h => ⟨h.1, h.2.2⟩) (fun _ _ => rfl) _ tx)
    have D_wd := Lib.hid dx
    have hqg : q ≠ gg := by have := z_W9; omega
    have s_wd := ux
    have b_wd : Below w.heap.size w wd := b_W9.trans (s_wd.toBelow (fun k hk e => by omega) b_W9.size)
    have m_w3_wd := m_w3_W9.trans s_wd
    have m_w4_wd := m_w4_W9.trans s_wd
    have m_w5_wd := m_w5_W9.trans s_wd
    have m_w6_wd := m_w6_W9.trans s_wd
    have m_W7_wd := m_W7_W9.trans s_wd
    have m_W8_wd := m_W8_W9.trans s_wd
    have m_W9_wd := m_W9_W9.trans s_wd
    clear s_wd b_W9 m_w3_W9 m_w4_W9 m_w5_W9 m_w6_W9 m_W7_W9 m_W8_W9 m_W9_W9
    have z_wd : gg < wd.heap.size := D_wd.out.lt
    have m_wd_wd := tRf gg wd
    clear hx kx tx dx ux
    have KAd := Lib.hid (Turn.blk m_W9_wd KA.out n_W7)
    obtain ⟨s0, s1, _, _⟩ := KAd.out.facts2
    go_wp2_with fail
    refine (term_any gg (4 * 2 + S.nodes + 1) G S 2 _ _ wd (by simp) (by omega) (by omega) (by omega) HS.out.1 nS (Ctx.turn HC3.out m_w3_wd) (Typ.turn HS.out.2 m_w4_wd) D_wd.out).mono ?_
    rintro e we ⟨y, v9, rfl, my, ty, ky, uy⟩
    obtain ⟨By, ey, Ay, cy, rfl, _⟩ := IsTm.form ty
    have HY := Lib.hid my
    have by' : y.bulk ≤ 12000 := my.bulk_le (bdN_le _ (by simp))
    have D_we := Lib.hid ky
    have YY9 := Lib.hid (show Trm wd.heap.size we y _ from ty)
    have s_we := uy
    have b_we : Below w.heap.size w we := b_wd.trans (s_we.toBelow (fun k hk e => by omega) b_wd.size)
    have m_w3_we := m_w3_wd.trans s_we
    have m_w4_we := m_w4_wd.trans s_we
    have m_w5_we := m_w5_wd.trans s_we
    have m_w6_we := m_w6_wd.trans s_we
    have m_W7_we := m_W7_wd.trans s_we
    have m_W8_we := m_W8_wd.trans s_we
    have m_W9_we := m_W9_wd.trans s_we
    have m_wd_we := m_wd_wd.trans s_we
    clear s_we b_wd m_w3_wd m_w4_wd m_w5_wd m_w6_wd m_W7_wd m_W8_wd m_W9_wd m_wd_wd
    have z_we : gg < we.heap.size := D_we.out.lt
    have m_we_we := tRf gg we
    clear my ky ty uy s0 s1
    go_upto_region 10 with fail
    have n_wf : we.heap.size ≠ gg := by have := z_we; omega
    have d_wf := (Deck.box D_we.out (Obj.cells #[.int .i64 y.kind, .int .i64 y.index, .int .i64 y.type.kind, .slice By y.type.args.length ey, .slice Ay y.args.length cy] 34))
    obtain ⟨a_wf, y_wf, k_wf⟩ := new_blk (Below.refl we.heap.size we) (Nat.le_refl _) #[.int .i64 y.kind, .int .i64 y.index, .int .i64 y.type.kind, .slice By y.type.args.length ey, .slice Ay y.args.length cy] 34
    generalize we.alloc (Obj.cells #[.int .i64 y.kind, .int .i64 y.index, .int .i64 y.type.kind, .slice By y.type.args.length ey, .slice Ay y.args.length cy] 34) = wf at a_wf y_wf k_wf d_wf ⊢
    have s_wf := (tCa gg a_wf)
    have b_wf : Below w.heap.size w wf := b_we.trans (s_wf.toBelow (fun k hk e => by omega) b_we.size)
    have m_w3_wf := m_w3_we.trans s_wf
    have m_w4_wf := m_w4_we.trans s_wf
    have m_w5_wf := m_w5_we.trans s_wf
    have m_w6_wf := m_w6_we.trans s_wf
    have m_W7_wf := m_W7_we.trans s_wf
    have m_W8_wf := m_W8_we.trans s_wf
    have m_W9_wf := m_W9_we.trans s_wf
    have m_wd_wf := m_wd_we.trans s_wf
    have m_we_wf := m_we_we.trans s_wf
    clear s_wf b_we m_w3_we m_w4_we m_w5_we m_w6_we m_W7_we m_W8_we m_W9_we m_wd_we m_we_we
    have z_wf : gg < wf.heap.size := by have := z_we; omega
    have m_wf_wf := tRf gg wf
    have K_wf := Lib.hid k_wf
    have D_wf := Lib.hid d_wf
    clear a_wf k_wf y_wf d_wf
    obtain ⟨z, hz⟩ : ∃ z, z = x.put 0 y := ⟨_, rfl⟩
    have HP := Lib.hid (show z.ok = true ∧ z.size ≤ 4096 ∧ z.typ G = .ok U ∧ z.bulk ≤ 399000 by rw [hz]; exact made_put HX.out HY.out (bd_put U S))
    have KXf := Turn.blk m_wd_wf KX.out hqg
    obtain ⟨x0, x1, x2, x3, x4, _⟩ := KXf.facts5
    obtain ⟨y0, y1, y2, y3, y4, _⟩ := K_wf.out.facts5
    have HXT := Lib.hid (Trm.below (Trm.turn XX.out m_wd_wf z_W9))
    have HYT := Lib.hid (Trm.below (Trm.turn YY9.out m_we_wf z_wd))
    have HE := Lib.hid (And.intro (made_err HX.out (Nat.le_trans (bd_3 U) (by omega))) (And.intro (made_err HY.out (Nat.le_trans (bd_2 S) (by omega))) (And.intro (made_low HX.out (by simp; omega) (Nat.le_trans (bd_3 U) (by omega))) (made_low HY.out (by omega) (Nat.le_trans (bd_2 S) (by omega))))))
    clear KXf
    go_wp2_with fail
    refine (putTop_is (t := x) (s := y) (U := z) hz.symm HP.out.2.1 (by omega) (by omega) HE.out.1 HE.out.2.1 HE.out.2.2.1 HE.out.2.2.2 (HTab.out.after b_wf) HXT.out HYT.out).mono ?_
    rintro e wg ⟨v10, rfl, tz, bz⟩
    obtain ⟨Bz, ez, Az, cz, rfl, _⟩ := IsTm.form tz
    have s_wg := (tCa gg bz)
    have b_wg : Below w.heap.size w wg := b_wf.trans (s_wg.toBelow (fun k hk e => by omega) b_wf.size)
    have m_w3_wg := m_w3_wf.trans s_wg
    have m_w4_wg := m_w4_wf.trans s_wg
    have m_w5_wg := m_w5_wf.trans s_wg
    have m_w6_wg := m_w6_wf.trans s_wg
    have m_W7_wg := m_W7_wf.trans s_wg
    have m_W8_wg := m_W8_wf.trans s_wg
    have m_W9_wg := m_W9_wf.trans s_wg
    have m_wd_wg := m_wd_wf.trans s_wg
    have m_we_wg := m_we_wf.trans s_wg
    have m_wf_wg := m_wf_wf.trans s_wg
    clear s_wg b_wf m_w3_wf m_w4_wf m_w5_wf m_w6_wf m_W7_wf m_W8_wf m_W9_wf m_wd_wf m_we_wf m_wf_wf
    have z_wg : gg < wg.heap.size := by have := bz.size; omega
    have m_wg_wg := tRf gg wg
    have D_wg := Lib.hid (Deck.call D_wf.out bz)
    have HZ0 := Lib.hid tz
    clear bz tz hz x0 x1 x2 x3 x4 y0 y1 y2 y3 y4
    go_upto_region 11 with fail
    obtain ⟨a_wh, y_wh, k_wh⟩ := new_blk (Below.refl wg.heap.size wg) (Nat.le_refl _) #[.int .i64 z.kind, .int .i64 z.index, .int .i64 z.type.kind, .slice Bz z.type.args.length ez, .slice Az z.args.length cz] 34
    generalize wg.alloc (Obj.cells #[.int .i64 z.kind, .int .i64 z.index, .int .i64 z.type.kind, .slice Bz z.type.args.length ez, .slice Az z.args.length cz] 34) = wh at a_wh y_wh k_wh ⊢
    have s_wh := (tCa gg a_wh)
    have b_wh : Below w.heap.size w wh := b_wg.trans (s_wh.toBelow (fun k hk e => by omega) b_wg.size)
    have m_w3_wh := m_w3_wg.trans s_wh
    have m_w4_wh := m_w4_wg.trans s_wh
    have m_w5_wh := m_w5_wg.trans s_wh
    have m_w6_wh := m_w6_wg.trans s_wh
    have m_W7_wh := m_W7_wg.trans s_wh
    have m_W8_wh := m_W8_wg.trans s_wh
    have m_W9_wh := m_W9_wg.trans s_wh
    have m_wd_wh := m_wd_wg.trans s_wh
    have m_we_wh := m_we_wg.trans s_wh
    have m_wf_wh := m_wf_wg.trans s_wh
    have m_wg_wh := m_wg_wg.trans s_wh
    clear s_wh b_wg m_w3_wg m_w4_wg m_w5_wg m_w6_wg m_W7_wg m_W8_wg m_W9_wg m_wd_wg m_we_wg m_wf_wg m_wg_wg
    have z_wh : gg < wh.heap.size := by have := z_wg; omega
    have m_wh_wh := tRf gg wh
    have n_wh : wg.heap.size ≠ gg := by have := z_wg; omega
    have K_wh := Lib.hid k_wh
    have HZ := Lib.hid (show IsTm (· < wh.heap.size) wh z _ from HZ0.out.keep (fun b h => Nat.lt_of_lt_of_le h a_wh.size) (fun p hp => a_wh.cell hp))
    have D_wh := Lib.hid (Deck.call D_wg.out a_wh)
    obtain ⟨x0, x1, x2, x3, x4, _⟩ := K_wh.out.facts5
    clear a_wh y_wh k_wh
    go_wp2_with fail
    refine (refTypeOf_any z G _ _ U wh HP.out.1 HP.out.2.1 (ctx_err HC3.out) (by omega) HP.out.2.2.2 HP.out.2.2.1 ((Ctx.turn HC3.out m_w3_wh).sl.keep (fun _ h => h.2) (fun _ _ => rfl)) (ctx_roomy HC3.out) HZ.out).mono ?_
    rintro e wi ⟨bi, v11, rfl, t11⟩
    obtain ⟨A11, c11, rfl⟩ := t11.form
    have s_wi := (tCa gg bi)
    have b_wi : Below w.heap.size w wi := b_wh.trans (s_wi.toBelow (fun k hk e => by omega) b_wh.size)
    have m_w3_wi := m_w3_wh.trans s_wi
    have m_w4_wi := m_w4_wh.trans s_wi
    have m_w5_wi := m_w5_wh.trans s_wi
    have m_w6_wi := m_w6_wh.trans s_wi
    have m_W7_wi := m_W7_wh.trans s_wi
    have m_W8_wi := m_W8_wh.trans s_wi
    have m_W9_wi := m_W9_wh.trans s_wi
    have m_wd_wi := m_wd_wh.trans s_wi
    have m_we_wi := m_we_wh.trans s_wi
    have m_wf_wi := m_wf_wh.trans s_wi
    have m_wg_wi := m_wg_wh.trans s_wi
    have m_wh_wi := m_wh_wh.trans s_wi
    clear s_wi b_wh m_w3_wh m_w4_wh m_w5_wh m_w6_wh m_W7_wh m_W8_wh m_W9_wh m_wd_wh m_we_wh m_wf_wh m_wg_wh m_wh_wh
    have z_wi : gg < wi.heap.size := by have := bi.size; omega
    have m_wi_wi := tRf gg wi
    have D_wi := Lib.hid (Deck.call D_wh.out bi)
    have HU0 := Lib.hid (show Typ gg wi U _ from IsTy.keep (fun b h => ⟨by rcases h.1 with h' | h'; exact h'.elim; omega, h.2⟩) (fun _ _ => rfl) _ t11)
    clear bi t11 x0 x1 x2 x3 x4
    go_upto_region 12 with fail
    obtain ⟨a_wj, y_wj, k_wj⟩ := new_blk (Below.refl wi.heap.size wi) (Nat.le_refl _) #[.int .i64 U.kind, .slice A11 U.args.length c11] 30
    generalize wi.alloc (Obj.cells #[.int .i64 U.kind, .slice A11 U.args.length c11] 30) = wj at a_wj y_wj k_wj ⊢
    have s_wj := (tCa gg a_wj)
    have b_wj : Below w.heap.size w wj := b_wi.trans (s_wj.toBelow (fun k hk e => by omega) b_wi.size)
    have m_w3_wj := m_w3_wi.trans s_wj
    have m_w4_wj := m_w4_wi.trans s_wj
    have m_w5_wj := m_w5_wi.trans s_wj
    have m_w6_wj := m_w6_wi.trans s_wj
    have m_W7_wj := m_W7_wi.trans s_wj
    have m_W8_wj := m_W8_wi.trans s_wj
    have m_W9_wj := m_W9_wi.trans s_wj
    have m_wd_wj := m_wd_wi.trans s_wj
    have m_we_wj := m_we_wi.trans s_wj
    have m_wf_wj := m_wf_wi.trans s_wj
    have m_wg_wj := m_wg_wi.trans s_wj
    have m_wh_wj := m_wh_wi.trans s_wj
    have m_wi_wj := m_wi_wi.trans s_wj
    clear s_wj b_wi m_w3_wi m_w4_wi m_w5_wi m_w6_wi m_W7_wi m_W8_wi m_W9_wi m_wd_wi m_we_wi m_wf_wi m_wg_wi m_wh_wi m_wi_wi
    have z_wj : gg < wj.heap.size := by have := z_wi; omega
    have m_wj_wj := tRf gg wj
    have n_wj : wi.heap.size ≠ gg := by have := z_wi; omega
    have K_wj := Lib.hid k_wj
    have D_wj := Lib.hid (Deck.call D_wi.out a_wj)
    clear a_wj y_wj k_wj
    have HYJ := Lib.hid (Trm.turn YY9.out m_we_wj z_wd)
    have KYj := Turn.blk m_wf_wj K_wf.out n_wf
    obtain ⟨y0, y1, y2, y3, y4, _⟩ := KYj.facts5
    obtain ⟨l, hl⟩ : ∃ l, l = y.lift 0 1 := ⟨_, rfl⟩
    have HL := Lib.hid (show l.ok = true ∧ l.size ≤ 4096 ∧ l.typ (G ++ [V]) = .ok S ∧ l.bulk ≤ 399000 by rw [hl]; exact made_lift HY.out (Nat.le_trans (bd_2 S) (by omega)))
    clear KYj
    go_wp2_with fail
    refine (liftTop_trm (t := y) (U := l) (by have := m_wd_wj.size; omega) hl.symm (by omega) HE.out.2.1 HE.out.2.2.2 (HTab.out.after b_wj) HYJ.out).mono ?_
    rintro e wk ⟨v12, rfl, tl, bl⟩
    obtain ⟨Bl, el, Al, cl, rfl, _⟩ := IsTm.form (t := l) tl
    have s_wk := (tCa gg bl)
    have b_wk : Below w.heap.size w wk := b_wj.trans (s_wk.toBelow (fun k hk e => by omega) b_wj.size)
    have m_w3_wk := m_w3_wj.trans s_wk
    have m_w4_wk := m_w4_wj.trans s_wk
    have m_w5_wk := m_w5_wj.trans s_wk
    have m_w6_wk := m_w6_wj.trans s_wk
    have m_W7_wk := m_W7_wj.trans s_wk
    have m_W8_wk := m_W8_wj.trans s_wk
    have m_W9_wk := m_W9_wj.trans s_wk
    have m_wd_wk := m_wd_wj.trans s_wk
    have m_we_wk := m_we_wj.trans s_wk
    have m_wf_wk := m_wf_wj.trans s_wk
    have m_wg_wk := m_wg_wj.trans s_wk
    have m_wh_wk := m_wh_wj.trans s_wk
    have m_wi_wk := m_wi_wj.trans s_wk
    have m_wj_wk := m_wj_wj.trans s_wk
    clear s_wk b_wj m_w3_wj m_w4_wj m_w5_wj m_w6_wj m_W7_wj m_W8_wj m_W9_wj m_wd_wj m_we_wj m_wf_wj m_wg_wj m_wh_wj m_wi_wj m_wj_wj
    have z_wk : gg < wk.heap.size := by have := bl.size; omega
    have m_wk_wk := tRf gg wk
    have D_wk := Lib.hid (Deck.call D_wj.out bl)
    have HL0 := Lib.hid tl
    clear bl tl hl y0 y1 y2 y3 y4
    go_upto_region 13 with fail
    obtain ⟨a_wl, y_wl, k_wl⟩ := new_blk (Below.refl wk.heap.size wk) (Nat.le_refl _) #[.int .i64 l.kind, .int .i64 l.index, .int .i64 l.type.kind, .slice Bl l.type.args.length el, .slice Al l.args.length cl] 34
    generalize wk.alloc (Obj.cells #[.int .i64 l.kind, .int .i64 l.index, .int .i64 l.type.kind, .slice Bl l.type.args.length el, .slice Al l.args.length cl] 34) = wl at a_wl y_wl k_wl ⊢
    have s_wl := (tCa gg a_wl)
    have b_wl : Below w.heap.size w wl := b_wk.trans (s_wl.toBelow (fun k hk e => by omega) b_wk.size)
    have m_w3_wl := m_w3_wk.trans s_wl
    have m_w4_wl := m_w4_wk.trans s_wl
    have m_w5_wl := m_w5_wk.trans s_wl
    have m_w6_wl := m_w6_wk.trans s_wl
    have m_W7_wl := m_W7_wk.trans s_wl
    have m_W8_wl := m_W8_wk.trans s_wl
    have m_W9_wl := m_W9_wk.trans s_wl
    have m_wd_wl := m_wd_wk.trans s_wl
    have m_we_wl := m_we_wk.trans s_wl
    have m_wf_wl := m_wf_wk.trans s_wl
    have m_wg_wl := m_wg_wk.trans s_wl
    have m_wh_wl := m_wh_wk.trans s_wl
    have m_wi_wl := m_wi_wk.trans s_wl
    have m_wj_wl := m_wj_wk.trans s_wl
    have m_wk_wl := m_wk_wk.trans s_wl
    clear s_wl b_wk m_w3_wk m_w4_wk m_w5_wk m_w6_wk m_W7_wk m_W8_wk m_W9_wk m_wd_wk m_we_wk m_wf_wk m_wg_wk m_wh_wk m_wi_wk m_wj_wk m_wk_wk
    have z_wl : gg < wl.heap.size := by have := z_wk; omega
    have m_wl_wl := tRf gg wl
    have n_wl : wk.heap.size ≠ gg := by have := z_wk; omega
    have K_wl := Lib.hid k_wl
    have HLT := Lib.hid (Trm.turn HL0.out m_wk_wl z_wd)
    have D_wl := Lib.hid (Deck.call D_wk.out a_wl)
    clear a_wl y_wl k_wl
    have KCl := Lib.hid (Turn.blk m_W9_wl KC.out n_W9)
    have nfC' : ¬ Free gg (wl.heap.size - 1) (w6.heap.size + 1 + 1) := by have := KCl.out.lt; have := n_W9; unfold Free; omega
    have nfL : ¬ Free gg (wl.heap.size - 1) wk.heap.size := by have := K_wl.out.lt; have := n_wl; unfold Free; omega
    have HCl := Lib.hid (Ctx.turn HC3.out m_w3_wl)
    have HVl := Lib.hid (Typ.turn HV.out.2 m_w6_wl)
    have HGV := Lib.hid (show ∀ X ∈ G ++ [V], X.ok = true ∧ X.nodes ≤ 3 from fun X hX => by rcases List.mem_append.1 hX with h | h; exact HGO.out X h; rw [List.mem_singleton.1 h]; exact ⟨HV.out.1, nV⟩)
    go_cut [16, 17] from 62 to 71 (fun x y wx => SubStep gg wl S x y wx)
    case first =>
      have QD := Lib.hid (Turn.free (n := wl.heap.size - 1) (tDr gg wl))
      have QDBN := Lib.hid (Turn.free (n := wl.heap.size - 1) (tAl gg wl (Obj.cells #[.int .i64 V.kind, .slice A6 V.args.length c6] 30)))
      have QDB := Lib.hid (Turn.free (n := wl.heap.size - 1) ((tAl gg wl (Obj.cells #[.int .i64 V.kind, .slice A6 V.args.length c6] 30)).trans (tDr gg _)))
      have QDLN := Lib.hid (Turn.free (n := wl.heap.size - 1) (tAl gg wl (Obj.cells #[.int .i64 0, .slice none 0 0] 30)))
      have QDL := Lib.hid (Turn.free (n := wl.heap.size - 1) ((tAl gg wl (Obj.cells #[.int .i64 0, .slice none 0 0] 30)).trans (tDr gg _)))
      have QDBLN := Lib.hid (Turn.free (n := wl.heap.size - 1) ((tAl gg wl (Obj.cells #[.int .i64 V.kind, .slice A6 V.args.length c6] 30)).trans (tAl gg _ (Obj.cells #[.int .i64 0, .slice none 0 0] 30))))
      have QDBL := Lib.hid (Turn.free (n := wl.heap.size - 1) (((tAl gg wl (Obj.cells #[.int .i64 V.kind, .slice A6 V.args.length c6] 30)).trans (tAl gg _ (Obj.cells #[.int .i64 0, .slice none 0 0] 30))).trans (tDr gg _)))
      have QDLBN := Lib.hid (Turn.free (n := wl.heap.size - 1) ((tAl gg wl (Obj.cells #[.int .i64 0, .slice none 0 0] 30)).trans (tAl gg _ (Obj.cells #[.int .i64 V.kind, .slice A6 V.args.length c6] 30))))
      have QDLB := Lib.hid (Turn.free (n := wl.heap.size - 1) (((tAl gg wl (Obj.cells #[.int .i64 0, .slice none 0 0] 30)).trans (tAl gg _ (Obj.cells #[.int .i64 V.kind, .slice A6 V.args.length c6] 30))).trans (tDr gg _)))
      have HSK := Lib.hid fun (w' : World) (h : Turn (Free gg (wl.heap.size - 1)) wl w') => And.intro (h.blk KCl.out nfC').facts2.1 (And.intro (h.blk KCl.out nfC').facts2.2.1 (And.intro (h.blk K_wl.out nfL).facts5.1 (And.intro (h.blk K_wl.out nfL).facts5.2.1 (And.intro (h.blk K_wl.out nfL).facts5.2.2.1 (And.intro (h.blk K_wl.out nfL).facts5.2.2.2.1 ((h.blk K_wl.out nfL).facts5.2.2.2.2.1))))))
      obtain ⟨q0, q1, q2, q3, q4, q5, q6⟩ := HSK.out wl (Turn.refl _ _)
      go_region_held3 (fun w' => w'.cell? ⟨w6.heap.size + 1 + 1, 0, none⟩ = some (.int .i64 V.kind) ∧ w'.cell? ⟨w6.heap.size + 1 + 1, 1, none⟩ = some (.slice A6 V.args.length c6) ∧ w'.cell? ⟨wk.heap.size, 0, none⟩ = some (.int .i64 l.kind) ∧ w'.cell? ⟨wk.heap.size, 1, none⟩ = some (.int .i64 l.index) ∧ w'.cell? ⟨wk.heap.size, 2, none⟩ = some (.int .i64 l.type.kind) ∧ w'.cell? ⟨wk.heap.size, 3, none⟩ = some (.slice Bl l.type.args.length el) ∧ w'.cell? ⟨wk.heap.size, 4, none⟩ = some (.slice Al l.args.length cl))
        (first | with_reducible exact HSK.out _ QD.out | with_reducible exact HSK.out _ QDBN.out | with_reducible exact HSK.out _ QDB.out | with_reducible exact HSK.out _ QDLN.out | with_reducible exact HSK.out _ QDL.out | with_reducible exact HSK.out _ QDBLN.out | with_reducible exact HSK.out _ QDBL.out | with_reducible exact HSK.out _ QDLBN.out | with_reducible exact HSK.out _ QDLB.out | with_reducible exact HSK.out _ Qp1.out | with_reducible exact HSK.out _ Qp1B.out | with_reducible exact HSK.out _ Qp1L.out | with_reducible exact HSK.out _ Qp1BL.out | with_reducible exact HSK.out _ Qp1LB.out | with_reducible exact HSK.out _ Qp2.out | with_reducible exact HSK.out _ Qp2L.out | with_reducible exact HSK.out _ Qp3.out | with_reducible exact HSK.out _ Qp3L.out | with_reducible exact HSK.out _ QF3.out | with_reducible exact HSK.out _ QS3.out)
        (first
          | (go_at_call 22
             have Pp3 := refTypeOf_any l (G ++ [V]) vp2 _ S (wp2.alloc (Obj.cells #[.int .i64 0, .slice none 0 0] 30)) HL.out.1 HL.out.2.1 (ctx_err (Ctx.turn C2.out (tAl gg _ (Obj.cells #[.int .i64 0, .slice none 0 0] 30)))) (by simp; omega) HL.out.2.2.2 HL.out.2.2.1 ((Ctx.turn C2.out (tAl gg _ (Obj.cells #[.int .i64 0, .slice none 0 0] 30))).sl.keep (fun _ h => h.2) (fun _ _ => rfl)) (ctx_roomy (Ctx.turn C2.out (tAl gg _ (Obj.cells #[.int .i64 0, .slice none 0 0] 30)))) (Trm.below (Trm.turn HLT.out (Tp2.out.trans (tAl gg _ (Obj.cells #[.int .i64 0, .slice none 0 0] 30))) z_wd))
             (with_reducible refine Pp3.mono ?_)
             rintro e wp3 ⟨bp3, vp3, rfl, tp3⟩
             clear Pp3
             have Tp3 := Lib.hid ((Tp2.out.trans (tAl gg _ (Obj.cells #[.int .i64 0, .slice none 0 0] 30))).trans (tCa gg bp3))
             have Up3 := Lib.hid ((tAl gg _ (Obj.cells #[.int .i64 0, .slice none 0 0] 30)).trans (tCa gg bp3))
             obtain ⟨Ap3, cp3, rfl⟩ := tp3.form
             have Kp3 := Lib.hid (Deck.call (Deck.box Kp2.out (Obj.cells #[.int .i64 0, .slice none 0 0] 30)) bp3)
             have KSLp3 := Lib.hid (And.intro (Turn.blk ((tCa gg bp3)) (Blk.new wp2 30 #[.int .i64 0, .slice none 0 0]) (by have := Tp2.out.size; omega)) (show wl.heap.size ≤ wp2.heap.size by have := Tp2.out.size; omega))
             have Qp3 := Lib.hid (Turn.free (n := wl.heap.size - 1) Tp3.out)
             have Qp3L := Lib.hid (Turn.free (n := wl.heap.size - 1) (Tp3.out.trans (tAl gg _ (Obj.cells #[.int .i64 0, .slice none 0 0] 30))))
             have tp3' := IsTy.keep (S' := (· < wp3.heap.size)) (fun b h => h.2) (fun _ _ => rfl) _ tp3
             have ENDN := Lib.hid (show SubStep gg wl S _ _ _ from ⟨rfl, tystep_new Tp3.out Kp3.out tp3'⟩)
             (have END := Lib.hid (show SubStep gg wl S _ _ _ from ⟨rfl, tystep_set (.inl HS.out.1) KSLp3.out.1 z_wl KSLp3.out.2 Tp3.out Kp3.out tp3'⟩))
             have QF3 := Lib.hid (Turn.free (n := wl.heap.size - 1) (Tp3.out.trans (tAl gg _ (Obj.cells #[.int .i64 S.kind, .slice Ap3 S.args.length cp3] 30))))
             (have QS3 := Lib.hid (Turn.trans Qp3.out (free_set2b KSLp3.out z_wl (.int .i64 S.kind) (.slice Ap3 S.args.length cp3))))
             (obtain ⟨_, _, f0, f1⟩ := KSLp3.out.1.facts2))
          | (go_at_call 22
             have Pp3 := refTypeOf_any l (G ++ [V]) vp2 _ S wp2 HL.out.1 HL.out.2.1 (ctx_err C2.out) (by simp; omega) HL.out.2.2.2 HL.out.2.2.1 (C2.out.sl.keep (fun _ h => h.2) (fun _ _ => rfl)) (ctx_roomy C2.out) (Trm.below (Trm.turn HLT.out Tp2.out z_wd))
             (with_reducible refine Pp3.mono ?_)
             rintro e wp3 ⟨bp3, vp3, rfl, tp3⟩
             clear Pp3
             have Tp3 := Lib.hid (Tp2.out.trans (tCa gg bp3))
             have Up3 := Lib.hid (tCa gg bp3)
             obtain ⟨Ap3, cp3, rfl⟩ := tp3.form
             have Kp3 := Lib.hid (Deck.call Kp2.out bp3)
             try (have KSLp3 := Lib.hid (And.intro (Turn.blk Up3.out KSLp2.out.1 (by have := KSLp2.out.2; omega)) KSLp2.out.2))
             have Qp3 := Lib.hid (Turn.free (n := wl.heap.size - 1) Tp3.out)
             have Qp3L := Lib.hid (Turn.free (n := wl.heap.size - 1) (Tp3.out.trans (tAl gg _ (Obj.cells #[.int .i64 0, .slice none 0 0] 30))))
             have tp3' := IsTy.keep (S' := (· < wp3.heap.size)) (fun b h => h.2) (fun _ _ => rfl) _ tp3
             have ENDN := Lib.hid (show SubStep gg wl S _ _ _ from ⟨rfl, tystep_new Tp3.out Kp3.out tp3'⟩)
             try (have END := Lib.hid (show SubStep gg wl S _ _ _ from ⟨rfl, tystep_set (.inl HS.out.1) KSLp3.out.1 z_wl KSLp3.out.2 Tp3.out Kp3.out tp3'⟩))
             have QF3 := Lib.hid (Turn.free (n := wl.heap.size - 1) (Tp3.out.trans (tAl gg _ (Obj.cells #[.int .i64 S.kind, .slice Ap3 S.args.length cp3] 30))))
             try (have QS3 := Lib.hid (Turn.trans Qp3.out (free_set2b KSLp3.out z_wl (.int .i64 S.kind) (.slice Ap3 S.args.length cp3))))
             try (obtain ⟨_, _, f0, f1⟩ := KSLp3.out.1.facts2))
          | (refine step_append_ty (w := (wp1.alloc (Obj.cells #[.int .i64 0, .slice none 0 0] 30))) (by rfl) (.tmp 64) (.tmp 66) (by rfl) (v := vp1) (u := _) (l := G) (m := [V]) (S := Good (· = gg) wl) (base := wl.heap.size) (by rfl) (by rfl) (Op1.out.below (below_box wp1 (Obj.cells #[.int .i64 0, .slice none 0 0] 30))) (src_one (Turn.blk (tAl gg _ (Obj.cells #[.int .i64 0, .slice none 0 0] 30)) KSBp1.out.1 (by have := KSBp1.out.2; omega)) HVl.out (Tp1.out.trans (tAl gg _ (Obj.cells #[.int .i64 0, .slice none 0 0] 30))) (fun b e => (Op1.out.lt b e).1)) (by simp; omega) ((Tp1.out.trans (tAl gg _ (Obj.cells #[.int .i64 0, .slice none 0 0] 30)))).size ?_
             intro vp2 wp2 op2 rp2 hp2 bp2
             have Tp2 := Lib.hid (Turn.far (Tp1.out.trans (tAl gg _ (Obj.cells #[.int .i64 0, .slice none 0 0] 30))) bp2)
             have Op2 := Lib.hid (show TyR.Own (Good (· = gg) wl) wl.heap.size vp2 (G ++ [V]) wp2 from op2)
             have Kp2 := Lib.hid (((Deck.box Kp1.out (Obj.cells #[.int .i64 0, .slice none 0 0] 30))).grown rp2 (fun k e => by have := (Op1.out.lt k e).1; omega))
             have KSLp2 := Lib.hid (And.intro (Blk.grownNe (Blk.new wp1 30 #[.int .i64 0, .slice none 0 0]) rp2 (own_far Op1.out (by omega))) (show wl.heap.size ≤ wp1.heap.size by have := Tp1.out.size; omega))
             have Qp2 := Lib.hid (Turn.free (n := wl.heap.size - 1) Tp2.out)
             have Qp2L := Lib.hid (Turn.free (n := wl.heap.size - 1) (Tp2.out.trans (tAl gg _ (Obj.cells #[.int .i64 0, .slice none 0 0] 30))))
             have C2 := Lib.hid (own_ctx Op2.out z_wl HGV.out)
             clear op2 rp2 hp2 bp2)
          | (refine step_append_ty (w := wp1) (by rfl) (.tmp 64) (.tmp 66) (by rfl) (v := vp1) (u := _) (l := G) (m := [V]) (S := Good (· = gg) wl) (base := wl.heap.size) (by rfl) (by rfl) Op1.out (src_one KSBp1.out.1 HVl.out Tp1.out (fun b e => (Op1.out.lt b e).1)) (by simp; omega) (Tp1.out).size ?_
             intro vp2 wp2 op2 rp2 hp2 bp2
             have Tp2 := Lib.hid (Turn.far Tp1.out bp2)
             have Op2 := Lib.hid (show TyR.Own (Good (· = gg) wl) wl.heap.size vp2 (G ++ [V]) wp2 from op2)
             have Kp2 := Lib.hid ((Kp1.out).grown rp2 (fun k e => by have := (Op1.out.lt k e).1; omega))
             try (have KSLp2 := Lib.hid (And.intro (Blk.grownNe (Turn.blk (tRf gg wp1) KSLp1.out.1 (by have := KSLp1.out.2; omega)) rp2 NELp1.out) KSLp1.out.2))
             have Qp2 := Lib.hid (Turn.free (n := wl.heap.size - 1) Tp2.out)
             have Qp2L := Lib.hid (Turn.free (n := wl.heap.size - 1) (Tp2.out.trans (tAl gg _ (Obj.cells #[.int .i64 0, .slice none 0 0] 30))))
             have C2 := Lib.hid (own_ctx Op2.out z_wl HGV.out)
             clear op2 rp2 hp2 bp2)
          | (refine step_append_ty (w := ((wp1.alloc (Obj.cells #[.int .i64 0, .slice none 0 0] 30)).alloc (Obj.cells #[.int .i64 V.kind, .slice A6 V.args.length c6] 30))) (by rfl) (.tmp 64) (.tmp 66) (by rfl) (v := vp1) (u := .slice (some ⟨wp1.heap.size + 1, 0, none⟩) 1 1) (l := G) (m := [V]) (S := Good (· = gg) wl) (base := wl.heap.size) (by rfl) (by rfl) ((Op1.out.below (below_box wp1 (Obj.cells #[.int .i64 0, .slice none 0 0] 30))).below (below_box _ (Obj.cells #[.int .i64 V.kind, .slice A6 V.args.length c6] 30))) (src_one (blk_new1 wp1 (Obj.cells #[.int .i64 0, .slice none 0 0] 30) #[.int .i64 V.kind, .slice A6 V.args.length c6] 30) HVl.out ((Tp1.out.trans (tAl gg _ (Obj.cells #[.int .i64 0, .slice none 0 0] 30))).trans (tAl gg _ (Obj.cells #[.int .i64 V.kind, .slice A6 V.args.length c6] 30))) (fun b e => (Op1.out.lt b e).1)) (by simp; omega) (((Tp1.out.trans (tAl gg _ (Obj.cells #[.int .i64 0, .slice none 0 0] 30))).trans (tAl gg _ (Obj.cells #[.int .i64 V.kind, .slice A6 V.args.length c6] 30)))).size ?_
             intro vp2 wp2 op2 rp2 hp2 bp2
             have Tp2 := Lib.hid (Turn.far ((Tp1.out.trans (tAl gg _ (Obj.cells #[.int .i64 0, .slice none 0 0] 30))).trans (tAl gg _ (Obj.cells #[.int .i64 V.kind, .slice A6 V.args.length c6] 30))) bp2)
             have Op2 := Lib.hid (show TyR.Own (Good (· = gg) wl) wl.heap.size vp2 (G ++ [V]) wp2 from op2)
             have Kp2 := Lib.hid (((Deck.box (Deck.box Kp1.out (Obj.cells #[.int .i64 0, .slice none 0 0] 30)) (Obj.cells #[.int .i64 V.kind, .slice A6 V.args.length c6] 30))).grown rp2 (fun k e => by have := (Op1.out.lt k e).1; omega))
             have KSLp2 := Lib.hid (And.intro (Blk.grownNe (Turn.blk (tAl gg _ (Obj.cells #[.int .i64 V.kind, .slice A6 V.args.length c6] 30)) (Blk.new wp1 30 #[.int .i64 0, .slice none 0 0]) (by have := Tp1.out.size; omega)) rp2 (own_far Op1.out (by omega))) (show wl.heap.size ≤ wp1.heap.size by have := Tp1.out.size; omega))
             have Qp2 := Lib.hid (Turn.free (n := wl.heap.size - 1) Tp2.out)
             have Qp2L := Lib.hid (Turn.free (n := wl.heap.size - 1) (Tp2.out.trans (tAl gg _ (Obj.cells #[.int .i64 0, .slice none 0 0] 30))))
             have C2 := Lib.hid (own_ctx Op2.out z_wl HGV.out)
             clear op2 rp2 hp2 bp2)
          | (refine step_append_ty (w := ((wp1.alloc (Obj.cells #[.int .i64 V.kind, .slice A6 V.args.length c6] 30)).alloc (Obj.cells #[.int .i64 0, .slice none 0 0] 30))) (by rfl) (.tmp 64) (.tmp 66) (by rfl) (v := vp1) (u := .slice (some ⟨wp1.heap.size, 0, none⟩) 1 1) (l := G) (m := [V]) (S := Good (· = gg) wl) (base := wl.heap.size) (by rfl) (by rfl) ((Op1.out.below (below_box wp1 (Obj.cells #[.int .i64 V.kind, .slice A6 V.args.length c6] 30))).below (below_box _ (Obj.cells #[.int .i64 0, .slice none 0 0] 30))) (src_one (Turn.blk (tAl gg _ (Obj.cells #[.int .i64 0, .slice none 0 0] 30)) (Blk.new wp1 30 #[.int .i64 V.kind, .slice A6 V.args.length c6]) (by have := Tp1.out.size; omega)) HVl.out ((Tp1.out.trans (tAl gg _ (Obj.cells #[.int .i64 V.kind, .slice A6 V.args.length c6] 30))).trans (tAl gg _ (Obj.cells #[.int .i64 0, .slice none 0 0] 30))) (fun b e => (Op1.out.lt b e).1)) (by simp; omega) (((Tp1.out.trans (tAl gg _ (Obj.cells #[.int .i64 V.kind, .slice A6 V.args.length c6] 30))).trans (tAl gg _ (Obj.cells #[.int .i64 0, .slice none 0 0] 30)))).size ?_
             intro vp2 wp2 op2 rp2 hp2 bp2
             have Tp2 := Lib.hid (Turn.far ((Tp1.out.trans (tAl gg _ (Obj.cells #[.int .i64 V.kind, .slice A6 V.args.length c6] 30))).trans (tAl gg _ (Obj.cells #[.int .i64 0, .slice none 0 0] 30))) bp2)
             have Op2 := Lib.hid (show TyR.Own (Good (· = gg) wl) wl.heap.size vp2 (G ++ [V]) wp2 from op2)
             have Kp2 := Lib.hid (((Deck.box (Deck.box Kp1.out (Obj.cells #[.int .i64 V.kind, .slice A6 V.args.length c6] 30)) (Obj.cells #[.int .i64 0, .slice none 0 0] 30))).grown rp2 (fun k e => by have := (Op1.out.lt k e).1; omega))
             have KSLp2 := Lib.hid (And.intro (Blk.grownNe (blk_new1 wp1 (Obj.cells #[.int .i64 V.kind, .slice A6 V.args.length c6] 30) #[.int .i64 0, .slice none 0 0] 30) rp2 (own_far Op1.out (by omega))) (show wl.heap.size ≤ wp1.heap.size + 1 by have := Tp1.out.size; omega))
             have Qp2 := Lib.hid (Turn.free (n := wl.heap.size - 1) Tp2.out)
             have Qp2L := Lib.hid (Turn.free (n := wl.heap.size - 1) (Tp2.out.trans (tAl gg _ (Obj.cells #[.int .i64 0, .slice none 0 0] 30))))
             have C2 := Lib.hid (own_ctx Op2.out z_wl HGV.out)
             clear op2 rp2 hp2 bp2)
          | (refine step_append_ty (w := (wp1.alloc (Obj.cells #[.int .i64 V.kind, .slice A6 V.args.length c6] 30))) (by rfl) (.tmp 64) (.tmp 66) (by rfl) (v := vp1) (u := .slice (some ⟨wp1.heap.size, 0, none⟩) 1 1) (l := G) (m := [V]) (S := Good (· = gg) wl) (base := wl.heap.size) (by rfl) (by rfl) (Op1.out.below (below_box wp1 (Obj.cells #[.int .i64 V.kind, .slice A6 V.args.length c6] 30))) (src_one (Blk.new wp1 30 #[.int .i64 V.kind, .slice A6 V.args.length c6]) HVl.out (Tp1.out.trans (tAl gg _ (Obj.cells #[.int .i64 V.kind, .slice A6 V.args.length c6] 30))) (fun b e => (Op1.out.lt b e).1)) (by simp; omega) ((Tp1.out.trans (tAl gg _ (Obj.cells #[.int .i64 V.kind, .slice A6 V.args.length c6] 30)))).size ?_
             intro vp2 wp2 op2 rp2 hp2 bp2
             have Tp2 := Lib.hid (Turn.far (Tp1.out.trans (tAl gg _ (Obj.cells #[.int .i64 V.kind, .slice A6 V.args.length c6] 30))) bp2)
             have Op2 := Lib.hid (show TyR.Own (Good (· = gg) wl) wl.heap.size vp2 (G ++ [V]) wp2 from op2)
             have Kp2 := Lib.hid (((Deck.box Kp1.out (Obj.cells #[.int .i64 V.kind, .slice A6 V.args.length c6] 30))).grown rp2 (fun k e => by have := (Op1.out.lt k e).1; omega))
             try (have KSLp2 := Lib.hid (And.intro (Blk.grownNe (Turn.blk (tAl gg _ (Obj.cells #[.int .i64 V.kind, .slice A6 V.args.length c6] 30)) KSLp1.out.1 (by have := KSLp1.out.2; omega)) rp2 NELp1.out) KSLp1.out.2))
             have Qp2 := Lib.hid (Turn.free (n := wl.heap.size - 1) Tp2.out)
             have Qp2L := Lib.hid (Turn.free (n := wl.heap.size - 1) (Tp2.out.trans (tAl gg _ (Obj.cells #[.int .i64 0, .slice none 0 0] 30))))
             have C2 := Lib.hid (own_ctx Op2.out z_wl HGV.out)
             clear op2 rp2 hp2 bp2)
          | (refine step_append_ty (w := ((wl.alloc (Obj.cells #[.int .i64 0, .slice none 0 0] 30)).alloc (Obj.cells #[.int .i64 V.kind, .slice A6 V.args.length c6] 30)).drew) (by rfl) (.const (.slice none 0 0)) (.tmp 63) (by rfl) (v := .slice none 0 0) (u := .slice A3 G.length c3) (l := []) (m := G) (S := Good (· = gg) wl) (base := wl.heap.size) (by rfl) (by rfl) (Rep.Own.nil (R := TyR) _ _ _) (src_ctx HCl.out (((tAl gg _ (Obj.cells #[.int .i64 0, .slice none 0 0] 30)).trans (tAl gg _ (Obj.cells #[.int .i64 V.kind, .slice A6 V.args.length c6] 30))).trans (tDr gg _)) (by simp [Value.ownBlock])) (by simp; omega) ((((tAl gg _ (Obj.cells #[.int .i64 0, .slice none 0 0] 30)).trans (tAl gg _ (Obj.cells #[.int .i64 V.kind, .slice A6 V.args.length c6] 30))).trans (tDr gg _))).size ?_
             intro vp1 wp1 op1 rp1 hp1 bp1
             have Tp1 := Lib.hid (Turn.far (((tAl gg _ (Obj.cells #[.int .i64 0, .slice none 0 0] 30)).trans (tAl gg _ (Obj.cells #[.int .i64 V.kind, .slice A6 V.args.length c6] 30))).trans (tDr gg _)) bp1)
             have Op1 := Lib.hid (show TyR.Own (Good (· = gg) wl) wl.heap.size vp1 ([] ++ G) wp1 from op1)
             have Kp1 := Lib.hid (((Deck.drewd (Deck.box (Deck.box D_wl.out (Obj.cells #[.int .i64 0, .slice none 0 0] 30)) (Obj.cells #[.int .i64 V.kind, .slice A6 V.args.length c6] 30)))).grown rp1 (by simp [Value.ownBlock]))
             have KSBp1 := Lib.hid (And.intro (Blk.grownNe (Turn.blk (tDr gg _) (blk_new1 wl (Obj.cells #[.int .i64 0, .slice none 0 0] 30) #[.int .i64 V.kind, .slice A6 V.args.length c6] 30) (by have := (Nat.le_refl wl.heap.size); omega)) rp1 (by simp [Value.ownBlock])) (show wl.heap.size ≤ wl.heap.size + 1 by have := (Nat.le_refl wl.heap.size); omega))
             have NEBp1 := Lib.hid (own_ne hp1 rfl (show wl.heap.size + 1 < _ by simp <;> omega))
             have KSLp1 := Lib.hid (And.intro (Blk.grownNe (Turn.blk ((tAl gg _ (Obj.cells #[.int .i64 V.kind, .slice A6 V.args.length c6] 30)).trans (tDr gg _)) (Blk.new wl 30 #[.int .i64 0, .slice none 0 0]) (by have := (Nat.le_refl wl.heap.size); omega)) rp1 (by simp [Value.ownBlock])) (show wl.heap.size ≤ wl.heap.size by have := (Nat.le_refl wl.heap.size); omega))
             have NELp1 := Lib.hid (own_ne hp1 rfl (show wl.heap.size < _ by simp <;> omega))
             have Qp1 := Lib.hid (Turn.free (n := wl.heap.size - 1) Tp1.out)
             have Qp1B := Lib.hid (Turn.free (n := wl.heap.size - 1) (Tp1.out.trans (tAl gg _ (Obj.cells #[.int .i64 V.kind, .slice A6 V.args.length c6] 30))))
             have Qp1L := Lib.hid (Turn.free (n := wl.heap.size - 1) (Tp1.out.trans (tAl gg _ (Obj.cells #[.int .i64 0, .slice none 0 0] 30))))
             have Qp1BL := Lib.hid (Turn.free (n := wl.heap.size - 1) ((Tp1.out.trans (tAl gg _ (Obj.cells #[.int .i64 V.kind, .slice A6 V.args.length c6] 30))).trans (tAl gg _ (Obj.cells #[.int .i64 0, .slice none 0 0] 30))))
             have Qp1LB := Lib.hid (Turn.free (n := wl.heap.size - 1) ((Tp1.out.trans (tAl gg _ (Obj.cells #[.int .i64 0, .slice none 0 0] 30))).trans (tAl gg _ (Obj.cells #[.int .i64 V.kind, .slice A6 V.args.length c6] 30))))
             clear op1 rp1 hp1 bp1)
          | (refine step_append_ty (w := ((wl.alloc (Obj.cells #[.int .i64 V.kind, .slice A6 V.args.length c6] 30)).alloc (Obj.cells #[.int .i64 0, .slice none 0 0] 30)).drew) (by rfl) (.const (.slice none 0 0)) (.tmp 63) (by rfl) (v := .slice none 0 0) (u := .slice A3 G.length c3) (l := []) (m := G) (S := Good (· = gg) wl) (base := wl.heap.size) (by rfl) (by rfl) (Rep.Own.nil (R := TyR) _ _ _) (src_ctx HCl.out (((tAl gg _ (Obj.cells #[.int .i64 V.kind, .slice A6 V.args.length c6] 30)).trans (tAl gg _ (Obj.cells #[.int .i64 0, .slice none 0 0] 30))).trans (tDr gg _)) (by simp [Value.ownBlock])) (by simp; omega) ((((tAl gg _ (Obj.cells #[.int .i64 V.kind, .slice A6 V.args.length c6] 30)).trans (tAl gg _ (Obj.cells #[.int .i64 0, .slice none 0 0] 30))).trans (tDr gg _))).size ?_
             intro vp1 wp1 op1 rp1 hp1 bp1
             have Tp1 := Lib.hid (Turn.far (((tAl gg _ (Obj.cells #[.int .i64 V.kind, .slice A6 V.args.length c6] 30)).trans (tAl gg _ (Obj.cells #[.int .i64 0, .slice none 0 0] 30))).trans (tDr gg _)) bp1)
             have Op1 := Lib.hid (show TyR.Own (Good (· = gg) wl) wl.heap.size vp1 ([] ++ G) wp1 from op1)
             have Kp1 := Lib.hid (((Deck.drewd (Deck.box (Deck.box D_wl.out (Obj.cells #[.int .i64 V.kind, .slice A6 V.args.length c6] 30)) (Obj.cells #[.int .i64 0, .slice none 0 0] 30)))).grown rp1 (by simp [Value.ownBlock]))
             have KSBp1 := Lib.hid (And.intro (Blk.grownNe (Turn.blk ((tAl gg _ (Obj.cells #[.int .i64 0, .slice none 0 0] 30)).trans (tDr gg _)) (Blk.new wl 30 #[.int .i64 V.kind, .slice A6 V.args.length c6]) (by have := (Nat.le_refl wl.heap.size); omega)) rp1 (by simp [Value.ownBlock])) (show wl.heap.size ≤ wl.heap.size by have := (Nat.le_refl wl.heap.size); omega))
             have NEBp1 := Lib.hid (own_ne hp1 rfl (show wl.heap.size < _ by simp <;> omega))
             have KSLp1 := Lib.hid (And.intro (Blk.grownNe (Turn.blk (tDr gg _) (blk_new1 wl (Obj.cells #[.int .i64 V.kind, .slice A6 V.args.length c6] 30) #[.int .i64 0, .slice none 0 0] 30) (by have := (Nat.le_refl wl.heap.size); omega)) rp1 (by simp [Value.ownBlock])) (show wl.heap.size ≤ wl.heap.size + 1 by have := (Nat.le_refl wl.heap.size); omega))
             have NELp1 := Lib.hid (own_ne hp1 rfl (show wl.heap.size + 1 < _ by simp <;> omega))
             have Qp1 := Lib.hid (Turn.free (n := wl.heap.size - 1) Tp1.out)
             have Qp1B := Lib.hid (Turn.free (n := wl.heap.size - 1) (Tp1.out.trans (tAl gg _ (Obj.cells #[.int .i64 V.kind, .slice A6 V.args.length c6] 30))))
             have Qp1L := Lib.hid (Turn.free (n := wl.heap.size - 1) (Tp1.out.trans (tAl gg _ (Obj.cells #[.int .i64 0, .slice none 0 0] 30))))
             have Qp1BL := Lib.hid (Turn.free (n := wl.heap.size - 1) ((Tp1.out.trans (tAl gg _ (Obj.cells #[.int .i64 V.kind, .slice A6 V.args.length c6] 30))).trans (tAl gg _ (Obj.cells #[.int .i64 0, .slice none 0 0] 30))))
             have Qp1LB := Lib.hid (Turn.free (n := wl.heap.size - 1) ((Tp1.out.trans (tAl gg _ (Obj.cells #[.int .i64 0, .slice none 0 0] 30))).trans (tAl gg _ (Obj.cells #[.int .i64 V.kind, .slice A6 V.args.length c6] 30))))
             clear op1 rp1 hp1 bp1)
          | (refine step_append_ty (w := (wl.alloc (Obj.cells #[.int .i64 0, .slice none 0 0] 30)).drew) (by rfl) (.const (.slice none 0 0)) (.tmp 63) (by rfl) (v := .slice none 0 0) (u := .slice A3 G.length c3) (l := []) (m := G) (S := Good (· = gg) wl) (base := wl.heap.size) (by rfl) (by rfl) (Rep.Own.nil (R := TyR) _ _ _) (src_ctx HCl.out ((tAl gg _ (Obj.cells #[.int .i64 0, .slice none 0 0] 30)).trans (tDr gg _)) (by simp [Value.ownBlock])) (by simp; omega) (((tAl gg _ (Obj.cells #[.int .i64 0, .slice none 0 0] 30)).trans (tDr gg _))).size ?_
             intro vp1 wp1 op1 rp1 hp1 bp1
             have Tp1 := Lib.hid (Turn.far ((tAl gg _ (Obj.cells #[.int .i64 0, .slice none 0 0] 30)).trans (tDr gg _)) bp1)
             have Op1 := Lib.hid (show TyR.Own (Good (· = gg) wl) wl.heap.size vp1 ([] ++ G) wp1 from op1)
             have Kp1 := Lib.hid (((Deck.drewd (Deck.box D_wl.out (Obj.cells #[.int .i64 0, .slice none 0 0] 30)))).grown rp1 (by simp [Value.ownBlock]))
             have KSLp1 := Lib.hid (And.intro (Blk.grownNe (Turn.blk (tDr gg _) (Blk.new wl 30 #[.int .i64 0, .slice none 0 0]) (by have := (Nat.le_refl wl.heap.size); omega)) rp1 (by simp [Value.ownBlock])) (show wl.heap.size ≤ wl.heap.size by have := (Nat.le_refl wl.heap.size); omega))
             have NELp1 := Lib.hid (own_ne hp1 rfl (show wl.heap.size < _ by simp <;> omega))
             have Qp1 := Lib.hid (Turn.free (n := wl.heap.size - 1) Tp1.out)
             have Qp1B := Lib.hid (Turn.free (n := wl.heap.size - 1) (Tp1.out.trans (tAl gg _ (Obj.cells #[.int .i64 V.kind, .slice A6 V.args.length c6] 30))))
             have Qp1L := Lib.hid (Turn.free (n := wl.heap.size - 1) (Tp1.out.trans (tAl gg _ (Obj.cells #[.int .i64 0, .slice none 0 0] 30))))
             have Qp1BL := Lib.hid (Turn.free (n := wl.heap.size - 1) ((Tp1.out.trans (tAl gg _ (Obj.cells #[.int .i64 V.kind, .slice A6 V.args.length c6] 30))).trans (tAl gg _ (Obj.cells #[.int .i64 0, .slice none 0 0] 30))))
             have Qp1LB := Lib.hid (Turn.free (n := wl.heap.size - 1) ((Tp1.out.trans (tAl gg _ (Obj.cells #[.int .i64 0, .slice none 0 0] 30))).trans (tAl gg _ (Obj.cells #[.int .i64 V.kind, .slice A6 V.args.length c6] 30))))
             clear op1 rp1 hp1 bp1)
          | (refine step_append_ty (w := (wl.alloc (Obj.cells #[.int .i64 V.kind, .slice A6 V.args.length c6] 30)).drew) (by rfl) (.const (.slice none 0 0)) (.tmp 63) (by rfl) (v := .slice none 0 0) (u := .slice A3 G.length c3) (l := []) (m := G) (S := Good (· = gg) wl) (base := wl.heap.size) (by rfl) (by rfl) (Rep.Own.nil (R := TyR) _ _ _) (src_ctx HCl.out ((tAl gg _ (Obj.cells #[.int .i64 V.kind, .slice A6 V.args.length c6] 30)).trans (tDr gg _)) (by simp [Value.ownBlock])) (by simp; omega) (((tAl gg _ (Obj.cells #[.int .i64 V.kind, .slice A6 V.args.length c6] 30)).trans (tDr gg _))).size ?_
             intro vp1 wp1 op1 rp1 hp1 bp1
             have Tp1 := Lib.hid (Turn.far ((tAl gg _ (Obj.cells #[.int .i64 V.kind, .slice A6 V.args.length c6] 30)).trans (tDr gg _)) bp1)
             have Op1 := Lib.hid (show TyR.Own (Good (· = gg) wl) wl.heap.size vp1 ([] ++ G) wp1 from op1)
             have Kp1 := Lib.hid (((Deck.drewd (Deck.box D_wl.out (Obj.cells #[.int .i64 V.kind, .slice A6 V.args.length c6] 30)))).grown rp1 (by simp [Value.ownBlock]))
             have KSBp1 := Lib.hid (And.intro (Blk.grownNe (Turn.blk (tDr gg _) (Blk.new wl 30 #[.int .i64 V.kind, .slice A6 V.args.length c6]) (by have := (Nat.le_refl wl.heap.size); omega)) rp1 (by simp [Value.ownBlock])) (show wl.heap.size ≤ wl.heap.size by have := (Nat.le_refl wl.heap.size); omega))
             have NEBp1 := Lib.hid (own_ne hp1 rfl (show wl.heap.size < _ by simp <;> omega))
             have Qp1 := Lib.hid (Turn.free (n := wl.heap.size - 1) Tp1.out)
             have Qp1B := Lib.hid (Turn.free (n := wl.heap.size - 1) (Tp1.out.trans (tAl gg _ (Obj.cells #[.int .i64 V.kind, .slice A6 V.args.length c6] 30))))
             have Qp1L := Lib.hid (Turn.free (n := wl.heap.size - 1) (Tp1.out.trans (tAl gg _ (Obj.cells #[.int .i64 0, .slice none 0 0] 30))))
             have Qp1BL := Lib.hid (Turn.free (n := wl.heap.size - 1) ((Tp1.out.trans (tAl gg _ (Obj.cells #[.int .i64 V.kind, .slice A6 V.args.length c6] 30))).trans (tAl gg _ (Obj.cells #[.int .i64 0, .slice none 0 0] 30))))
             have Qp1LB := Lib.hid (Turn.free (n := wl.heap.size - 1) ((Tp1.out.trans (tAl gg _ (Obj.cells #[.int .i64 0, .slice none 0 0] 30))).trans (tAl gg _ (Obj.cells #[.int .i64 V.kind, .slice A6 V.args.length c6] 30))))
             clear op1 rp1 hp1 bp1)
          | (refine step_append_ty (w := wl.drew) (by rfl) (.const (.slice none 0 0)) (.tmp 63) (by rfl) (v := .slice none 0 0) (u := .slice A3 G.length c3) (l := []) (m := G) (S := Good (· = gg) wl) (base := wl.heap.size) (by rfl) (by rfl) (Rep.Own.nil (R := TyR) _ _ _) (src_ctx HCl.out (tDr gg _) (by simp [Value.ownBlock])) (by simp; omega) ((tDr gg _)).size ?_
             intro vp1 wp1 op1 rp1 hp1 bp1
             have Tp1 := Lib.hid (Turn.far (tDr gg _) bp1)
             have Op1 := Lib.hid (show TyR.Own (Good (· = gg) wl) wl.heap.size vp1 ([] ++ G) wp1 from op1)
             have Kp1 := Lib.hid (((Deck.drewd D_wl.out)).grown rp1 (by simp [Value.ownBlock]))
             have Qp1 := Lib.hid (Turn.free (n := wl.heap.size - 1) Tp1.out)
             have Qp1B := Lib.hid (Turn.free (n := wl.heap.size - 1) (Tp1.out.trans (tAl gg _ (Obj.cells #[.int .i64 V.kind, .slice A6 V.args.length c6] 30))))
             have Qp1L := Lib.hid (Turn.free (n := wl.heap.size - 1) (Tp1.out.trans (tAl gg _ (Obj.cells #[.int .i64 0, .slice none 0 0] 30))))
             have Qp1BL := Lib.hid (Turn.free (n := wl.heap.size - 1) ((Tp1.out.trans (tAl gg _ (Obj.cells #[.int .i64 V.kind, .slice A6 V.args.length c6] 30))).trans (tAl gg _ (Obj.cells #[.int .i64 0, .slice none 0 0] 30))))
             have Qp1LB := Lib.hid (Turn.free (n := wl.heap.size - 1) ((Tp1.out.trans (tAl gg _ (Obj.cells #[.int .i64 0, .slice none 0 0] 30))).trans (tAl gg _ (Obj.cells #[.int .i64 V.kind, .slice A6 V.args.length c6] 30))))
             clear op1 rp1 hp1 bp1))
      all_goals (go_wp2_with fail; go_meet; first | exact END.out | exact ENDN.out)
    case rest =>
      obtain ⟨rfl, qs, As, cs, rfl, ks, hqs, ts, ds, us⟩ := hcut
      obtain ⟨wm, hwm⟩ : ∃ x, x = wc := ⟨_, rfl⟩
      subst hwm
      have KS := Lib.hid ks
      have hsg : qs ≠ gg := by have := z_wl; omega
      have s_wm := us
      have b_wm : Below w.heap.size w wm := b_wl.trans (s_wm.toBelow (fun k hk e => by omega) b_wl.size)
      have m_w3_wm := m_w3_wl.trans s_wm
      have m_w4_wm := m_w4_wl.trans s_wm
      have m_w5_wm := m_w5_wl.trans s_wm
      have m_w6_wm := m_w6_wl.trans s_wm
      have m_W7_wm := m_W7_wl.trans s_wm
      have m_W8_wm := m_W8_wl.trans s_wm
      have m_W9_wm := m_W9_wl.trans s_wm
      have m_wd_wm := m_wd_wl.trans s_wm
      have m_we_wm := m_we_wl.trans s_wm
      have m_wf_wm := m_wf_wl.trans s_wm
      have m_wg_wm := m_wg_wl.trans s_wm
      have m_wh_wm := m_wh_wl.trans s_wm
      have m_wi_wm := m_wi_wl.trans s_wm
      have m_wj_wm := m_wj_wl.trans s_wm
      have m_wk_wm := m_wk_wl.trans s_wm
      have m_wl_wm := m_wl_wl.trans s_wm
      clear s_wm b_wl m_w3_wl m_w4_wl m_w5_wl m_w6_wl m_W7_wl m_W8_wl m_W9_wl m_wd_wl m_we_wl m_wf_wl m_wg_wl m_wh_wl m_wi_wl m_wj_wl m_wk_wl m_wl_wl
      have z_wm : gg < wm.heap.size := ds.lt
      have KAm := Lib.hid (Turn.blk m_W9_wm KA.out n_W7)
      have KBm := Lib.hid (Turn.blk m_W9_wm KB.out n_W8)
      have KJm := Lib.hid (Turn.blk m_wj_wm K_wj.out n_wj)
      have T0 := Lib.hid (Typ.below (Typ.turn HU0.out m_wi_wm))
      have T1 := Lib.hid (Typ.below (Typ.turn HU.out.2 m_w5_wm))
      have T2 := Lib.hid (show IsTy (· < wm.heap.size) wm S _ from IsTy.keep (fun b h => h.2.2) (fun _ _ => rfl) _ ts)
      have T3 := Lib.hid (Typ.below (Typ.turn HS.out.2 m_w4_wm))
      clear ks hqs ts ds us
      have nUS : U.nodes ≤ 400000 ∧ S.nodes ≤ 400000 := by omega
      obtain ⟨s0, s1, _, _⟩ := KJm.out.facts2
      obtain ⟨t0, t1, _, _⟩ := KBm.out.facts2
      go_wp2_with fail
      refine (refSame_is (w := wm) true (eqb_self U) nUS.1 nUS.1 T0.out T1.out).mono ?_
      rintro e wn ⟨rfl, bn⟩
      have G1 := Lib.hid bn
      clear bn s0 s1 t0 t1
      obtain ⟨s0, s1, _, _⟩ := (KS.out.below G1.out KS.out.lt).facts2
      obtain ⟨t0, t1, _, _⟩ := (KAm.out.below G1.out KAm.out.lt).facts2
      go_wp2_with fail
      refine (refSame_is (w := wn) true (eqb_self S) nUS.2 nUS.2 (T2.out.boxed' G1.out) (T3.out.boxed' G1.out)).mono ?_
      rintro e wo ⟨rfl, bo⟩
      have G2 := Lib.hid (show Below wm.heap.size wm wo from G1.out.trans (bo.mono G1.out.size))
      clear bo s0 s1 t0 t1
      go_wp2_with fail
      go_ret
      exact ⟨rfl, b_wm.trans (G2.out.mono b_wm.size)⟩
end Go.Proofs.YtdbkphgamkeboaaDoor
