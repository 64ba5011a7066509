/- The walk of the law on what has no type. -/
import Derived.Test.YtieafbmabnohhaaDoorRefusedKit
import Derived.Test.YtieafbmabnohhaaDoorAppendTy
namespace Go.Proofs.YtieafbmabnohhaaDoor
open Go.RowKit

set_option maxRecDepth 100000 in
set_option maxHeartbeats 16000000 in
theorem refusedLaw_small (A : Option Addr) (len cap : Nat) (u : Int) (w : World) (htab : Tab w) (hlen : len ≤ 500) (hu : 0 ≤ u ∧ u < 256) (hA : ∀ i, i < len → ∃ a x, A = some a ∧ a.block < w.heap.size ∧ w.cell? (a.add i) = some (.int .i64 x)) :
    Calls Tryd.prog 3 #[.slice A len cap, .int .u8 u] w fun e w' => e = .returned (.bool true) ∧ Below w.heap.size w w' := by
  have hA' := Lib.hid hA
  have HTab := Lib.hid htab
  clear hA htab
  have e500 : decide ((len : Int) ≤ 500) = true := by simp; omega
  go_enter Tryd.func3, Tryd.ntmps3
  go_wp2_with fail
  refine (saneT_any w HTab.out).mono ?_
  rintro e w1 ⟨rfl, hb1⟩
  go_wp2_with fail
  refine (few_any A len cap w1 (by simp only [maxLen]; omega)).mono ?_
  rintro e w1' ⟨rfl, rfl⟩
  rw [e500]
  go_wp2_with fail
  have hA1 : ∀ i, i < len → ∃ a x, A = some a ∧ a.block < w1.heap.size ∧ w1.cell? (a.add i) = some (.int .i64 x) := fun i hi => by
    obtain ⟨a, x, h1, h2, h3⟩ := hA'.out i hi
    exact ⟨a, x, h1, Nat.lt_of_lt_of_le h2 hb1.size, (hb1.cell (by rw [add_block]; exact h2)).trans h3⟩
  refine (new_any A len cap w1 hlen hA1).mono ?_
  rintro e w2 ⟨rfl, hw2⟩
  have hd2 := new_deck A len cap w1 hlen hA1
  rw [hw2] at hd2
  have b_w2 : Below w.heap.size w w2 := by rw [← hw2]; exact hb1.alloc hb1.size _
  have hgw : w.heap.size ≤ w1.heap.size := hb1.size
  clear hw2 hA1 hb1
  generalize w1.heap.size = gg at hd2 hgw ⊢
  have z_w2 := hd2.lt
  have HD2 := Lib.hid hd2
  clear hd2
  go_wp2_with fail
  refine (mkContext_any gg w2 HD2.out).mono ?_
  rintro e w3 ⟨G, v, rfl, hG3, hGok, hGs, hGf, hGnil, hd3, hg3⟩
  obtain ⟨A3, c3, rfl⟩ := hGs.form
  have HD3 := Lib.hid hd3
  have HC3 := Lib.hid (show Ctx gg w3 G (.slice A3 G.length c3) from ⟨hGs.keep (fun b hb => ⟨by have := hb.1; omega, hb.2⟩) (fun _ _ => rfl), hGf, hGok⟩)
  have HGN := Lib.hid hGnil
  have HGO := Lib.hid hGok
  have s_w3 := turn_of hg3
  have b_w3 : Below w.heap.size w w3 := b_w2.trans (s_w3.toBelow (fun k hk e => by omega) b_w2.size)
  clear s_w3 b_w2 
  have z_w3 : gg < w3.heap.size := HD3.out.lt
  have m_w3_w3 := tRf gg w3
  clear hg3 hd3 hGs hGf hGnil hGok
  go_wp2_with fail
  refine (type_any 1 1 gg w3 (by omega) (by omega) (by omega) HD3.out).mono ?_
  rintro e w4 ⟨S, x4, rfl, okS, szS, tyS, hd4, hg4⟩
  obtain ⟨A4, c4, rfl⟩ := tyS.form
  have nS := type_three szS
  have HS := Lib.hid (And.intro okS (Typ.of tyS z_w3))
  have D_w4 := Lib.hid hd4
  have s_w4 := turn_of hg4
  have b_w4 : Below w.heap.size w w4 := b_w3.trans (s_w4.toBelow (fun k hk e => by omega) b_w3.size)
  have m_w3_w4 := m_w3_w3.trans s_w4
  clear s_w4 b_w3 m_w3_w3
  have z_w4 : gg < w4.heap.size := D_w4.out.lt
  have m_w4_w4 := tRf gg w4
  clear tyS hd4 hg4 okS szS
  go_wp2_with fail
  refine (type_any 1 1 gg w4 (by omega) (by omega) (by omega) D_w4.out).mono ?_
  rintro e w5 ⟨U, x5, rfl, okU, szU, tyU, hd5, hg5⟩
  obtain ⟨A5, c5, rfl⟩ := tyU.form
  have nU := type_three szU
  have HU := Lib.hid (And.intro okU (Typ.of tyU z_w4))
  have D_w5 := Lib.hid hd5
  have s_w5 := turn_of hg5
  have b_w5 : Below w.heap.size w w5 := b_w4.trans (s_w5.toBelow (fun k hk e => by omega) b_w4.size)
  have m_w3_w5 := m_w3_w4.trans s_w5
  have m_w4_w5 := m_w4_w4.trans s_w5
  clear s_w5 b_w4 m_w3_w4 m_w4_w4
  have z_w5 : gg < w5.heap.size := D_w5.out.lt
  have m_w5_w5 := tRf gg w5
  clear tyU hd5 hg5 okU szU
  go_wp2_with fail
  refine (type_any 1 1 gg w5 (by omega) (by omega) (by omega) D_w5.out).mono ?_
  rintro e w6 ⟨V, x6, rfl, okV, szV, tyV, hd6, hg6⟩
  obtain ⟨A6, c6, rfl⟩ := tyV.form
  have nV := type_three szV
  have HV := Lib.hid (And.intro okV (Typ.of tyV z_w5))
  have D_w6 := Lib.hid hd6
  have s_w6 := turn_of hg6
  have b_w6 : Below w.heap.size w w6 := b_w5.trans (s_w6.toBelow (fun k hk e => by omega) b_w5.size)
  have m_w3_w6 := m_w3_w5.trans s_w6
  have m_w4_w6 := m_w4_w5.trans s_w6
  have m_w5_w6 := m_w5_w5.trans s_w6
  clear s_w6 b_w5 m_w3_w5 m_w4_w5 m_w5_w5
  have z_w6 : gg < w6.heap.size := D_w6.out.lt
  have m_w6_w6 := tRf gg w6
  clear tyV hd6 hg6 okV szV
  go_upto_region 8 with fail
  have d_W7 := (Deck.box D_w6.out (Obj.cells #[.int .i64 S.kind, .slice A4 S.args.length c4] 30))
  obtain ⟨a_W7, y_W7, k_W7⟩ := new_blk (Below.refl w6.heap.size w6) (Nat.le_refl _) #[.int .i64 S.kind, .slice A4 S.args.length c4] 30
  generalize w6.alloc (Obj.cells #[.int .i64 S.kind, .slice A4 S.args.length c4] 30) = W7 at a_W7 y_W7 k_W7 d_W7 ⊢
  have s_W7 := (tCa gg a_W7)
  have b_W7 : Below w.heap.size w W7 := b_w6.trans (s_W7.toBelow (fun k hk e => by omega) b_w6.size)
  have m_w3_W7 := m_w3_w6.trans s_W7
  have m_w4_W7 := m_w4_w6.trans s_W7
  have m_w5_W7 := m_w5_w6.trans s_W7
  have m_w6_W7 := m_w6_w6.trans s_W7
  clear s_W7 b_w6 m_w3_w6 m_w4_w6 m_w5_w6 m_w6_w6
  have z_W7 : gg < W7.heap.size := by have := z_w6; omega
  have m_W7_W7 := tRf gg W7
  have K_W7 := Lib.hid k_W7
  have D_W7 := Lib.hid d_W7
  have n_W7 : w6.heap.size ≠ gg := by have := z_w6; omega
  have d_W8 := (Deck.box D_W7.out (Obj.cells #[.int .i64 U.kind, .slice A5 U.args.length c5] 30))
  obtain ⟨a_W8, y_W8, k_W8⟩ := new_blk (Below.refl W7.heap.size W7) (Nat.le_refl _) #[.int .i64 U.kind, .slice A5 U.args.length c5] 30
  rw [y_W7] at k_W8
  generalize W7.alloc (Obj.cells #[.int .i64 U.kind, .slice A5 U.args.length c5] 30) = W8 at a_W8 y_W8 k_W8 d_W8 ⊢
  have s_W8 := (tCa gg a_W8)
  have b_W8 : Below w.heap.size w W8 := b_W7.trans (s_W8.toBelow (fun k hk e => by omega) b_W7.size)
  have m_w3_W8 := m_w3_W7.trans s_W8
  have m_w4_W8 := m_w4_W7.trans s_W8
  have m_w5_W8 := m_w5_W7.trans s_W8
  have m_w6_W8 := m_w6_W7.trans s_W8
  have m_W7_W8 := m_W7_W7.trans s_W8
  clear s_W8 b_W7 m_w3_W7 m_w4_W7 m_w5_W7 m_w6_W7 m_W7_W7
  have z_W8 : gg < W8.heap.size := by have := z_W7; omega
  have m_W8_W8 := tRf gg W8
  have K_W8 := Lib.hid k_W8
  have D_W8 := Lib.hid d_W8
  have n_W8 : w6.heap.size + 1 ≠ gg := by have := z_w6; omega
  have d_W9 := (Deck.box D_W8.out (Obj.cells #[.int .i64 V.kind, .slice A6 V.args.length c6] 30))
  obtain ⟨a_W9, y_W9, k_W9⟩ := new_blk (Below.refl W8.heap.size W8) (Nat.le_refl _) #[.int .i64 V.kind, .slice A6 V.args.length c6] 30
  rw [y_W8, y_W7] at k_W9
  generalize W8.alloc (Obj.cells #[.int .i64 V.kind, .slice A6 V.args.length c6] 30) = W9 at a_W9 y_W9 k_W9 d_W9 ⊢
  have s_W9 := (tCa gg a_W9)
  have b_W9 : Below w.heap.size w W9 := b_W8.trans (s_W9.toBelow (fun k hk e => by omega) b_W8.size)
  have m_w3_W9 := m_w3_W8.trans s_W9
  have m_w4_W9 := m_w4_W8.trans s_W9
  have m_w5_W9 := m_w5_W8.trans s_W9
  have m_w6_W9 := m_w6_W8.trans s_W9
  have m_W7_W9 := m_W7_W8.trans s_W9
  have m_W8_W9 := m_W8_W8.trans s_W9
  clear s_W9 b_W8 m_w3_W8 m_w4_W8 m_w5_W8 m_w6_W8 m_W7_W8 m_W8_W8
  have z_W9 : gg < W9.heap.size := by have := z_W8; omega
  have m_W9_W9 := tRf gg W9
  have K_W9 := Lib.hid k_W9
  have D_W9 := Lib.hid d_W9
  have n_W9 : w6.heap.size + 1 + 1 ≠ gg := by have := z_w6; omega
  clear a_W7 a_W8 a_W9 k_W7 k_W8 k_W9 d_W7 d_W8 d_W9 y_W7 y_W8 y_W9
  have KA := Lib.hid (Turn.blk m_W7_W9 K_W7.out n_W7)
  have nfA : ¬ Free gg (W9.heap.size - 1) (w6.heap.size) := by have := KA.out.lt; have := n_W7; unfold Free; omega
  have KB := Lib.hid (Turn.blk m_W8_W9 K_W8.out n_W8)
  have nfB : ¬ Free gg (W9.heap.size - 1) (w6.heap.size + 1) := by have := KB.out.lt; have := n_W8; unfold Free; omega
  have KC := Lib.hid (Turn.blk m_W9_W9 K_W9.out n_W9)
  have nfC : ¬ Free gg (W9.heap.size - 1) (w6.heap.size + 1 + 1) := by have := KC.out.lt; have := n_W9; unfold Free; omega
  have HC9 := Lib.hid (Ctx.turn HC3.out m_w3_W9)
  have HS9 := Lib.hid (Typ.turn HS.out.2 m_w4_W9)
  have HU9 := Lib.hid (Typ.turn HU.out.2 m_w5_W9)
  have HV9 := Lib.hid (Typ.turn HV.out.2 m_w6_W9)
  have HGS := Lib.hid (show ∀ X ∈ G ++ [S], X.ok = true ∧ X.nodes ≤ 3 from fun X hX => by rcases List.mem_append.1 hX with h | h; exact HGO.out X h; rw [List.mem_singleton.1 h]; exact ⟨HS.out.1, nS⟩)
  obtain ⟨YY, hYY⟩ : ∃ Y : Tm → Prop, Y = fun y => ∃ x, Made (G ++ [S]) U (bdN ((1 : Int)).toNat U) (bdO ((1 : Int)).toNat U) x ∧ y = .mk 2 0 S [x] := ⟨_, rfl⟩
  have HYY := Lib.hid hYY
  clear hYY
  go_cut [10] from 31 to 41 (fun x wx => StepR gg YY W9 W9 x wx)
  case first =>
    have QD := Lib.hid (Turn.free (n := W9.heap.size - 1) (tDr gg W9))
    have QDBN := Lib.hid (Turn.free (n := W9.heap.size - 1) (tAl gg W9 (Obj.cells #[.int .i64 S.kind, .slice A4 S.args.length c4] 30)))
    have QDB := Lib.hid (Turn.free (n := W9.heap.size - 1) ((tAl gg W9 (Obj.cells #[.int .i64 S.kind, .slice A4 S.args.length c4] 30)).trans (tDr gg _)))
    have QDLN := Lib.hid (Turn.free (n := W9.heap.size - 1) (tAl gg W9 (Obj.cells #[.int .i64 0, .int .i64 0, .int .i64 0, .slice none 0 0, .slice none 0 0] 34)))
    have QDL := Lib.hid (Turn.free (n := W9.heap.size - 1) ((tAl gg W9 (Obj.cells #[.int .i64 0, .int .i64 0, .int .i64 0, .slice none 0 0, .slice none 0 0] 34)).trans (tDr gg _)))
    have QDBLN := Lib.hid (Turn.free (n := W9.heap.size - 1) ((tAl gg W9 (Obj.cells #[.int .i64 S.kind, .slice A4 S.args.length c4] 30)).trans (tAl gg _ (Obj.cells #[.int .i64 0, .int .i64 0, .int .i64 0, .slice none 0 0, .slice none 0 0] 34))))
    have QDBL := Lib.hid (Turn.free (n := W9.heap.size - 1) (((tAl gg W9 (Obj.cells #[.int .i64 S.kind, .slice A4 S.args.length c4] 30)).trans (tAl gg _ (Obj.cells #[.int .i64 0, .int .i64 0, .int .i64 0, .slice none 0 0, .slice none 0 0] 34))).trans (tDr gg _)))
    have QDLBN := Lib.hid (Turn.free (n := W9.heap.size - 1) ((tAl gg W9 (Obj.cells #[.int .i64 0, .int .i64 0, .int .i64 0, .slice none 0 0, .slice none 0 0] 34)).trans (tAl gg _ (Obj.cells #[.int .i64 S.kind, .slice A4 S.args.length c4] 30))))
    have QDLB := Lib.hid (Turn.free (n := W9.heap.size - 1) (((tAl gg W9 (Obj.cells #[.int .i64 0, .int .i64 0, .int .i64 0, .slice none 0 0, .slice none 0 0] 34)).trans (tAl gg _ (Obj.cells #[.int .i64 S.kind, .slice A4 S.args.length c4] 30))).trans (tDr gg _)))
    have HSK := Lib.hid fun (w' : World) (h : Turn (Free gg (W9.heap.size - 1)) W9 w') => And.intro (h.blk KA.out nfA).facts2.1 (And.intro (h.blk KA.out nfA).facts2.2.1 (And.intro (h.blk KB.out nfB).facts2.1 (h.blk KB.out nfB).facts2.2.1))
    obtain ⟨q0, q1, q2, q3⟩ := HSK.out W9 (Turn.refl _ _)
    go_region_held3 (fun w' => w'.cell? ⟨w6.heap.size, 0, none⟩ = some (.int .i64 S.kind) ∧ w'.cell? ⟨w6.heap.size, 1, none⟩ = some (.slice A4 S.args.length c4) ∧ w'.cell? ⟨w6.heap.size + 1, 0, none⟩ = some (.int .i64 U.kind) ∧ w'.cell? ⟨w6.heap.size + 1, 1, none⟩ = some (.slice A5 U.args.length c5))
      (first | with_reducible exact HSK.out _ QD.out | with_reducible exact HSK.out _ QDBN.out | with_reducible exact HSK.out _ QDB.out | with_reducible exact HSK.out _ QDLN.out | with_reducible exact HSK.out _ QDL.out | with_reducible exact HSK.out _ QDBLN.out | with_reducible exact HSK.out _ QDBL.out | with_reducible exact HSK.out _ QDLBN.out | with_reducible exact HSK.out _ QDLB.out | with_reducible exact HSK.out _ Qp1.out | with_reducible exact HSK.out _ Qp1B.out | with_reducible exact HSK.out _ Qp1L.out | with_reducible exact HSK.out _ Qp1BL.out | with_reducible exact HSK.out _ Qp1LB.out | with_reducible exact HSK.out _ Qp2.out | with_reducible exact HSK.out _ Qp2L.out | with_reducible exact HSK.out _ Qp3.out | with_reducible exact HSK.out _ Qp3O.out | with_reducible exact HSK.out _ Qp3L.out | with_reducible exact HSK.out _ Qp3OL.out | with_reducible exact HSK.out _ Qp3LO.out | with_reducible exact HSK.out _ Qp4.out | with_reducible exact HSK.out _ Qp4L.out | with_reducible exact HSK.out _ QF4.out | with_reducible exact HSK.out _ QS4.out)
      (first
        | (go_at_call 19
           have Pp4 := t_call 2 (T := S) (by omega) (bulk_1 bp3) (Typ.below (Typ.turn HS9.out ((Tp3.out.trans (tAl gg _ (Obj.cells #[.int .i64 0, .int .i64 0, .int .i64 0, .slice none 0 0, .slice none 0 0] 34))).trans (tAl gg _ (Obj.cells #[.int .i64 yp3.kind, .int .i64 yp3.index, .int .i64 yp3.type.kind, .slice Bp3 yp3.type.args.length ep3, .slice Ap3 yp3.args.length cp3] 34))))) (sl_ptr (tm_sl1 (Trm.below (Trm.turn Xp3.out (tAl gg wp3 (Obj.cells #[.int .i64 0, .int .i64 0, .int .i64 0, .slice none 0 0, .slice none 0 0] 34)) z_W9))) (World.size_alloc wp3 (Obj.cells #[.int .i64 0, .int .i64 0, .int .i64 0, .slice none 0 0, .slice none 0 0] 34)).symm)
           (with_reducible refine Pp4.mono ?_)
           rintro e wp4 ⟨yp4, vp4, hp4, rfl, tp4, rp4⟩
           clear Pp4
           have Tp4 := Lib.hid (((Tp3.out.trans (tAl gg _ (Obj.cells #[.int .i64 0, .int .i64 0, .int .i64 0, .slice none 0 0, .slice none 0 0] 34))).trans (tAl gg _ (Obj.cells #[.int .i64 yp3.kind, .int .i64 yp3.index, .int .i64 yp3.type.kind, .slice Bp3 yp3.type.args.length ep3, .slice Ap3 yp3.args.length cp3] 34))).trans (tCa gg rp4))
           have Up4 := Lib.hid (((tAl gg _ (Obj.cells #[.int .i64 0, .int .i64 0, .int .i64 0, .slice none 0 0, .slice none 0 0] 34)).trans (tAl gg _ (Obj.cells #[.int .i64 yp3.kind, .int .i64 yp3.index, .int .i64 yp3.type.kind, .slice Bp3 yp3.type.args.length ep3, .slice Ap3 yp3.args.length cp3] 34))).trans (tCa gg rp4))
           obtain ⟨Bp4, ep4, Ap4, cp4, rfl, _⟩ := IsTm.form tp4
           have Kp4 := Lib.hid (Deck.call (Deck.box (Deck.box Kp3.out (Obj.cells #[.int .i64 0, .int .i64 0, .int .i64 0, .slice none 0 0, .slice none 0 0] 34)) (Obj.cells #[.int .i64 yp3.kind, .int .i64 yp3.index, .int .i64 yp3.type.kind, .slice Bp3 yp3.type.args.length ep3, .slice Ap3 yp3.args.length cp3] 34)) rp4)
           have Ep4 := Lib.hid hp4
           clear hp4
           have KSLp4 := Lib.hid (And.intro (Turn.blk (((tAl gg _ (Obj.cells #[.int .i64 yp3.kind, .int .i64 yp3.index, .int .i64 yp3.type.kind, .slice Bp3 yp3.type.args.length ep3, .slice Ap3 yp3.args.length cp3] 34)).trans (tCa gg rp4))) (Blk.new wp3 34 #[.int .i64 0, .int .i64 0, .int .i64 0, .slice none 0 0, .slice none 0 0]) (by have := Tp3.out.size; omega)) (show W9.heap.size ≤ wp3.heap.size by have := Tp3.out.size; omega))
           have Qp4 := Lib.hid (Turn.free (n := W9.heap.size - 1) Tp4.out)
           have Qp4L := Lib.hid (Turn.free (n := W9.heap.size - 1) (Tp4.out.trans (tAl gg _ (Obj.cells #[.int .i64 0, .int .i64 0, .int .i64 0, .slice none 0 0, .slice none 0 0] 34))))
           have HYP := Lib.hid (show YY yp4 by rw [HYY.out]; exact ⟨yp3, Mp3.out, Ep4.out⟩)
           have QF4 := Lib.hid (Turn.free (n := W9.heap.size - 1) (Tp4.out.trans (tAl gg _ (Obj.cells #[.int .i64 yp4.kind, .int .i64 yp4.index, .int .i64 yp4.type.kind, .slice Bp4 yp4.type.args.length ep4, .slice Ap4 yp4.args.length cp4] 34))))
           have ENDN := Lib.hid (step_new (W := W9) (Y := YY) HYP.out (((Tp3.out.trans (tAl gg _ (Obj.cells #[.int .i64 0, .int .i64 0, .int .i64 0, .slice none 0 0, .slice none 0 0] 34))).trans (tAl gg _ (Obj.cells #[.int .i64 yp3.kind, .int .i64 yp3.index, .int .i64 yp3.type.kind, .slice Bp3 yp3.type.args.length ep3, .slice Ap3 yp3.args.length cp3] 34)))).size Tp4.out Kp4.out tp4)
           (have END := Lib.hid (step_set (W := W9) (Y := YY) HYP.out KSLp4.out.1 z_W9 KSLp4.out.2 (Nat.le_refl _) (by simp; omega) Tp4.out Kp4.out tp4))
           (have QS4 := Lib.hid (Turn.trans Qp4.out (free_set5b KSLp4.out z_W9 (.int .i64 yp4.kind) (.int .i64 yp4.index) (.int .i64 yp4.type.kind) (.slice Bp4 yp4.type.args.length ep4) (.slice Ap4 yp4.args.length cp4))))
           (obtain ⟨_, _, _, _, _, f0, f1, f2, f3, f4⟩ := KSLp4.out.1.facts5))
        | (go_at_call 19
           have Pp4 := t_call 2 (T := S) (by omega) (bulk_1 bp3) (Typ.below (Typ.turn HS9.out ((Tp3.out.trans (tAl gg _ (Obj.cells #[.int .i64 yp3.kind, .int .i64 yp3.index, .int .i64 yp3.type.kind, .slice Bp3 yp3.type.args.length ep3, .slice Ap3 yp3.args.length cp3] 34))).trans (tAl gg _ (Obj.cells #[.int .i64 0, .int .i64 0, .int .i64 0, .slice none 0 0, .slice none 0 0] 34))))) (sl_alloc (tm_sl1 (Trm.below (Trm.turn Xp3.out (tRf gg wp3) z_W9))) (Obj.cells #[.int .i64 0, .int .i64 0, .int .i64 0, .slice none 0 0, .slice none 0 0] 34))
           (with_reducible refine Pp4.mono ?_)
           rintro e wp4 ⟨yp4, vp4, hp4, rfl, tp4, rp4⟩
           clear Pp4
           have Tp4 := Lib.hid (((Tp3.out.trans (tAl gg _ (Obj.cells #[.int .i64 yp3.kind, .int .i64 yp3.index, .int .i64 yp3.type.kind, .slice Bp3 yp3.type.args.length ep3, .slice Ap3 yp3.args.length cp3] 34))).trans (tAl gg _ (Obj.cells #[.int .i64 0, .int .i64 0, .int .i64 0, .slice none 0 0, .slice none 0 0] 34))).trans (tCa gg rp4))
           have Up4 := Lib.hid (((tAl gg _ (Obj.cells #[.int .i64 yp3.kind, .int .i64 yp3.index, .int .i64 yp3.type.kind, .slice Bp3 yp3.type.args.length ep3, .slice Ap3 yp3.args.length cp3] 34)).trans (tAl gg _ (Obj.cells #[.int .i64 0, .int .i64 0, .int .i64 0, .slice none 0 0, .slice none 0 0] 34))).trans (tCa gg rp4))
           obtain ⟨Bp4, ep4, Ap4, cp4, rfl, _⟩ := IsTm.form tp4
           have Kp4 := Lib.hid (Deck.call (Deck.box (Deck.box Kp3.out (Obj.cells #[.int .i64 yp3.kind, .int .i64 yp3.index, .int .i64 yp3.type.kind, .slice Bp3 yp3.type.args.length ep3, .slice Ap3 yp3.args.length cp3] 34)) (Obj.cells #[.int .i64 0, .int .i64 0, .int .i64 0, .slice none 0 0, .slice none 0 0] 34)) rp4)
           have Ep4 := Lib.hid hp4
           clear hp4
           have KSLp4 := Lib.hid (And.intro (Turn.blk ((tCa gg rp4)) (blk_new1 wp3 (Obj.cells #[.int .i64 yp3.kind, .int .i64 yp3.index, .int .i64 yp3.type.kind, .slice Bp3 yp3.type.args.length ep3, .slice Ap3 yp3.args.length cp3] 34) #[.int .i64 0, .int .i64 0, .int .i64 0, .slice none 0 0, .slice none 0 0] 34) (by have := Tp3.out.size; omega)) (show W9.heap.size ≤ wp3.heap.size + 1 by have := Tp3.out.size; omega))
           have Qp4 := Lib.hid (Turn.free (n := W9.heap.size - 1) Tp4.out)
           have Qp4L := Lib.hid (Turn.free (n := W9.heap.size - 1) (Tp4.out.trans (tAl gg _ (Obj.cells #[.int .i64 0, .int .i64 0, .int .i64 0, .slice none 0 0, .slice none 0 0] 34))))
           have HYP := Lib.hid (show YY yp4 by rw [HYY.out]; exact ⟨yp3, Mp3.out, Ep4.out⟩)
           have QF4 := Lib.hid (Turn.free (n := W9.heap.size - 1) (Tp4.out.trans (tAl gg _ (Obj.cells #[.int .i64 yp4.kind, .int .i64 yp4.index, .int .i64 yp4.type.kind, .slice Bp4 yp4.type.args.length ep4, .slice Ap4 yp4.args.length cp4] 34))))
           have ENDN := Lib.hid (step_new (W := W9) (Y := YY) HYP.out (((Tp3.out.trans (tAl gg _ (Obj.cells #[.int .i64 yp3.kind, .int .i64 yp3.index, .int .i64 yp3.type.kind, .slice Bp3 yp3.type.args.length ep3, .slice Ap3 yp3.args.length cp3] 34))).trans (tAl gg _ (Obj.cells #[.int .i64 0, .int .i64 0, .int .i64 0, .slice none 0 0, .slice none 0 0] 34)))).size Tp4.out Kp4.out tp4)
           (have END := Lib.hid (step_set (W := W9) (Y := YY) HYP.out KSLp4.out.1 z_W9 KSLp4.out.2 (Nat.le_refl _) (by simp) Tp4.out Kp4.out tp4))
           (have QS4 := Lib.hid (Turn.trans Qp4.out (free_set5b KSLp4.out z_W9 (.int .i64 yp4.kind) (.int .i64 yp4.index) (.int .i64 yp4.type.kind) (.slice Bp4 yp4.type.args.length ep4) (.slice Ap4 yp4.args.length cp4))))
           (obtain ⟨_, _, _, _, _, f0, f1, f2, f3, f4⟩ := KSLp4.out.1.facts5))
        | (go_at_call 19
           have Pp4 := t_call 2 (T := S) (by omega) (bulk_1 bp3) (Typ.below (Typ.turn HS9.out (Tp3.out.trans (tAl gg _ (Obj.cells #[.int .i64 yp3.kind, .int .i64 yp3.index, .int .i64 yp3.type.kind, .slice Bp3 yp3.type.args.length ep3, .slice Ap3 yp3.args.length cp3] 34))))) (tm_sl1 (Trm.below (Trm.turn Xp3.out (tRf gg wp3) z_W9)))
           (with_reducible refine Pp4.mono ?_)
           rintro e wp4 ⟨yp4, vp4, hp4, rfl, tp4, rp4⟩
           clear Pp4
           have Tp4 := Lib.hid ((Tp3.out.trans (tAl gg _ (Obj.cells #[.int .i64 yp3.kind, .int .i64 yp3.index, .int .i64 yp3.type.kind, .slice Bp3 yp3.type.args.length ep3, .slice Ap3 yp3.args.length cp3] 34))).trans (tCa gg rp4))
           have Up4 := Lib.hid ((tAl gg _ (Obj.cells #[.int .i64 yp3.kind, .int .i64 yp3.index, .int .i64 yp3.type.kind, .slice Bp3 yp3.type.args.length ep3, .slice Ap3 yp3.args.length cp3] 34)).trans (tCa gg rp4))
           obtain ⟨Bp4, ep4, Ap4, cp4, rfl, _⟩ := IsTm.form tp4
           have Kp4 := Lib.hid (Deck.call (Deck.box Kp3.out (Obj.cells #[.int .i64 yp3.kind, .int .i64 yp3.index, .int .i64 yp3.type.kind, .slice Bp3 yp3.type.args.length ep3, .slice Ap3 yp3.args.length cp3] 34)) rp4)
           have Ep4 := Lib.hid hp4
           clear hp4
           try (have KSLp4 := Lib.hid (And.intro (Turn.blk Up4.out KSLp3.out.1 (by have := KSLp3.out.2; omega)) KSLp3.out.2))
           have Qp4 := Lib.hid (Turn.free (n := W9.heap.size - 1) Tp4.out)
           have Qp4L := Lib.hid (Turn.free (n := W9.heap.size - 1) (Tp4.out.trans (tAl gg _ (Obj.cells #[.int .i64 0, .int .i64 0, .int .i64 0, .slice none 0 0, .slice none 0 0] 34))))
           have HYP := Lib.hid (show YY yp4 by rw [HYY.out]; exact ⟨yp3, Mp3.out, Ep4.out⟩)
           have QF4 := Lib.hid (Turn.free (n := W9.heap.size - 1) (Tp4.out.trans (tAl gg _ (Obj.cells #[.int .i64 yp4.kind, .int .i64 yp4.index, .int .i64 yp4.type.kind, .slice Bp4 yp4.type.args.length ep4, .slice Ap4 yp4.args.length cp4] 34))))
           have ENDN := Lib.hid (step_new (W := W9) (Y := YY) HYP.out ((Tp3.out.trans (tAl gg _ (Obj.cells #[.int .i64 yp3.kind, .int .i64 yp3.index, .int .i64 yp3.type.kind, .slice Bp3 yp3.type.args.length ep3, .slice Ap3 yp3.args.length cp3] 34)))).size Tp4.out Kp4.out tp4)
           try (have END := Lib.hid (step_set (W := W9) (Y := YY) HYP.out KSLp4.out.1 z_W9 KSLp4.out.2 (Nat.le_refl _) (by have := KSLp3.out.1.lt; simp; omega) Tp4.out Kp4.out tp4))
           try (have QS4 := Lib.hid (Turn.trans Qp4.out (free_set5b KSLp4.out z_W9 (.int .i64 yp4.kind) (.int .i64 yp4.index) (.int .i64 yp4.type.kind) (.slice Bp4 yp4.type.args.length ep4) (.slice Ap4 yp4.args.length cp4))))
           try (obtain ⟨_, _, _, _, _, f0, f1, f2, f3, f4⟩ := KSLp4.out.1.facts5))
        | (go_at_call 20
           have Pp3 := term_any gg (4 * 1 + U.nodes + 1) (G ++ [S]) U 1 vp2 _ (wp2.alloc (Obj.cells #[.int .i64 0, .int .i64 0, .int .i64 0, .slice none 0 0, .slice none 0 0] 34)) (by simp) (by omega) (by omega) (by simp; omega) HU.out.1 nU (Ctx.turn C2.out (tAl gg _ (Obj.cells #[.int .i64 0, .int .i64 0, .int .i64 0, .slice none 0 0, .slice none 0 0] 34))) (Typ.turn HU9.out (Tp2.out.trans (tAl gg _ (Obj.cells #[.int .i64 0, .int .i64 0, .int .i64 0, .slice none 0 0, .slice none 0 0] 34)))) (Deck.box Kp2.out (Obj.cells #[.int .i64 0, .int .i64 0, .int .i64 0, .slice none 0 0, .slice none 0 0] 34))
           (with_reducible refine Pp3.mono ?_)
           rintro e wp3 ⟨yp3, vp3, rfl, mp3, tp3, kp3, up3⟩
           clear Pp3
           have Tp3 := Lib.hid ((Tp2.out.trans (tAl gg _ (Obj.cells #[.int .i64 0, .int .i64 0, .int .i64 0, .slice none 0 0, .slice none 0 0] 34))).trans (up3))
           have Up3 := Lib.hid ((tAl gg _ (Obj.cells #[.int .i64 0, .int .i64 0, .int .i64 0, .slice none 0 0, .slice none 0 0] 34)).trans (up3))
           obtain ⟨Bp3, ep3, Ap3, cp3, rfl, _⟩ := IsTm.form tp3
           have Xp3 := Lib.hid (show Trm W9.heap.size wp3 yp3 (.agg #[.int .i64 yp3.kind, .int .i64 yp3.index, .int .i64 yp3.type.kind, .slice Bp3 yp3.type.args.length ep3, .slice Ap3 yp3.args.length cp3]) from Trm.mono tp3 ((Tp2.out.trans (tAl gg _ (Obj.cells #[.int .i64 0, .int .i64 0, .int .i64 0, .slice none 0 0, .slice none 0 0] 34)))).size)
           have Mp3 := Lib.hid mp3
           have bp3 : yp3.bulk ≤ 12000 := mp3.bulk_le (bdN_le _ (by simp))
           have Kp3 := Lib.hid kp3
           clear mp3 tp3
           have KSLp3 := Lib.hid (And.intro (Turn.blk ((up3)) (Blk.new wp2 34 #[.int .i64 0, .int .i64 0, .int .i64 0, .slice none 0 0, .slice none 0 0]) (by have := Tp2.out.size; omega)) (show W9.heap.size ≤ wp2.heap.size by have := Tp2.out.size; omega))
           try (have KSOp3 := Lib.hid (And.intro (Turn.blk Up3.out KSOp2.out.1 (by have := KSOp2.out.2; omega)) KSOp2.out.2))
           have Qp3 := Lib.hid (Turn.free (n := W9.heap.size - 1) Tp3.out)
           have Qp3O := Lib.hid (Turn.free (n := W9.heap.size - 1) (Tp3.out.trans (tAl gg _ (Obj.cells #[.int .i64 yp3.kind, .int .i64 yp3.index, .int .i64 yp3.type.kind, .slice Bp3 yp3.type.args.length ep3, .slice Ap3 yp3.args.length cp3] 34))))
           have Qp3L := Lib.hid (Turn.free (n := W9.heap.size - 1) (Tp3.out.trans (tAl gg _ (Obj.cells #[.int .i64 0, .int .i64 0, .int .i64 0, .slice none 0 0, .slice none 0 0] 34))))
           have Qp3OL := Lib.hid (Turn.free (n := W9.heap.size - 1) ((Tp3.out.trans (tAl gg _ (Obj.cells #[.int .i64 yp3.kind, .int .i64 yp3.index, .int .i64 yp3.type.kind, .slice Bp3 yp3.type.args.length ep3, .slice Ap3 yp3.args.length cp3] 34))).trans (tAl gg _ (Obj.cells #[.int .i64 0, .int .i64 0, .int .i64 0, .slice none 0 0, .slice none 0 0] 34))))
           have Qp3LO := Lib.hid (Turn.free (n := W9.heap.size - 1) ((Tp3.out.trans (tAl gg _ (Obj.cells #[.int .i64 0, .int .i64 0, .int .i64 0, .slice none 0 0, .slice none 0 0] 34))).trans (tAl gg _ (Obj.cells #[.int .i64 yp3.kind, .int .i64 yp3.index, .int .i64 yp3.type.kind, .slice Bp3 yp3.type.args.length ep3, .slice Ap3 yp3.args.length cp3] 34)))))
        | (go_at_call 20
           have Pp3 := term_any gg (4 * 1 + U.nodes + 1) (G ++ [S]) U 1 vp2 _ wp2 (by simp) (by omega) (by omega) (by simp; omega) HU.out.1 nU C2.out (Typ.turn HU9.out Tp2.out) Kp2.out
           (with_reducible refine Pp3.mono ?_)
           rintro e wp3 ⟨yp3, vp3, rfl, mp3, tp3, kp3, up3⟩
           clear Pp3
           have Tp3 := Lib.hid (Tp2.out.trans (up3))
           have Up3 := Lib.hid (up3)
           obtain ⟨Bp3, ep3, Ap3, cp3, rfl, _⟩ := IsTm.form tp3
           have Xp3 := Lib.hid (show Trm W9.heap.size wp3 yp3 (.agg #[.int .i64 yp3.kind, .int .i64 yp3.index, .int .i64 yp3.type.kind, .slice Bp3 yp3.type.args.length ep3, .slice Ap3 yp3.args.length cp3]) from Trm.mono tp3 (Tp2.out).size)
           have Mp3 := Lib.hid mp3
           have bp3 : yp3.bulk ≤ 12000 := mp3.bulk_le (bdN_le _ (by simp))
           have Kp3 := Lib.hid kp3
           clear mp3 tp3
           try (have KSLp3 := Lib.hid (And.intro (Turn.blk Up3.out KSLp2.out.1 (by have := KSLp2.out.2; omega)) KSLp2.out.2))
           try (have KSOp3 := Lib.hid (And.intro (Turn.blk Up3.out KSOp2.out.1 (by have := KSOp2.out.2; omega)) KSOp2.out.2))
           have Qp3 := Lib.hid (Turn.free (n := W9.heap.size - 1) Tp3.out)
           have Qp3O := Lib.hid (Turn.free (n := W9.heap.size - 1) (Tp3.out.trans (tAl gg _ (Obj.cells #[.int .i64 yp3.kind, .int .i64 yp3.index, .int .i64 yp3.type.kind, .slice Bp3 yp3.type.args.length ep3, .slice Ap3 yp3.args.length cp3] 34))))
           have Qp3L := Lib.hid (Turn.free (n := W9.heap.size - 1) (Tp3.out.trans (tAl gg _ (Obj.cells #[.int .i64 0, .int .i64 0, .int .i64 0, .slice none 0 0, .slice none 0 0] 34))))
           have Qp3OL := Lib.hid (Turn.free (n := W9.heap.size - 1) ((Tp3.out.trans (tAl gg _ (Obj.cells #[.int .i64 yp3.kind, .int .i64 yp3.index, .int .i64 yp3.type.kind, .slice Bp3 yp3.type.args.length ep3, .slice Ap3 yp3.args.length cp3] 34))).trans (tAl gg _ (Obj.cells #[.int .i64 0, .int .i64 0, .int .i64 0, .slice none 0 0, .slice none 0 0] 34))))
           have Qp3LO := Lib.hid (Turn.free (n := W9.heap.size - 1) ((Tp3.out.trans (tAl gg _ (Obj.cells #[.int .i64 0, .int .i64 0, .int .i64 0, .slice none 0 0, .slice none 0 0] 34))).trans (tAl gg _ (Obj.cells #[.int .i64 yp3.kind, .int .i64 yp3.index, .int .i64 yp3.type.kind, .slice Bp3 yp3.type.args.length ep3, .slice Ap3 yp3.args.length cp3] 34)))))
        | (refine step_append_ty (w := (wp1.alloc (Obj.cells #[.int .i64 0, .int .i64 0, .int .i64 0, .slice none 0 0, .slice none 0 0] 34))) (by rfl) (.tmp 34) (.tmp 36) (by rfl) (v := vp1) (u := _) (l := G) (m := [S]) (S := Good (· = gg) W9) (base := W9.heap.size) (by rfl) (by rfl) (Op1.out.below (below_box wp1 (Obj.cells #[.int .i64 0, .int .i64 0, .int .i64 0, .slice none 0 0, .slice none 0 0] 34))) (src_one (Turn.blk (tAl gg _ (Obj.cells #[.int .i64 0, .int .i64 0, .int .i64 0, .slice none 0 0, .slice none 0 0] 34)) KSBp1.out.1 (by have := KSBp1.out.2; omega)) HS9.out (Tp1.out.trans (tAl gg _ (Obj.cells #[.int .i64 0, .int .i64 0, .int .i64 0, .slice none 0 0, .slice none 0 0] 34))) (fun b e => (Op1.out.lt b e).1)) (by simp; omega) ((Tp1.out.trans (tAl gg _ (Obj.cells #[.int .i64 0, .int .i64 0, .int .i64 0, .slice none 0 0, .slice none 0 0] 34)))).size ?_
           intro vp2 wp2 op2 rp2 hp2 bp2
           have Tp2 := Lib.hid (Turn.far (Tp1.out.trans (tAl gg _ (Obj.cells #[.int .i64 0, .int .i64 0, .int .i64 0, .slice none 0 0, .slice none 0 0] 34))) bp2)
           have Op2 := Lib.hid (show TyR.Own (Good (· = gg) W9) W9.heap.size vp2 (G ++ [S]) wp2 from op2)
           have Kp2 := Lib.hid (((Deck.box Kp1.out (Obj.cells #[.int .i64 0, .int .i64 0, .int .i64 0, .slice none 0 0, .slice none 0 0] 34))).grown rp2 (fun k e => by have := (Op1.out.lt k e).1; omega))
           have KSLp2 := Lib.hid (And.intro (Blk.grownNe (Blk.new wp1 34 #[.int .i64 0, .int .i64 0, .int .i64 0, .slice none 0 0, .slice none 0 0]) rp2 (own_far Op1.out (by omega))) (show W9.heap.size ≤ wp1.heap.size by have := Tp1.out.size; omega))
           have Qp2 := Lib.hid (Turn.free (n := W9.heap.size - 1) Tp2.out)
           have Qp2L := Lib.hid (Turn.free (n := W9.heap.size - 1) (Tp2.out.trans (tAl gg _ (Obj.cells #[.int .i64 0, .int .i64 0, .int .i64 0, .slice none 0 0, .slice none 0 0] 34))))
           have C2 := Lib.hid (own_ctx Op2.out z_W9 HGS.out)
           clear op2 rp2 hp2 bp2)
        | (refine step_append_ty (w := wp1) (by rfl) (.tmp 34) (.tmp 36) (by rfl) (v := vp1) (u := _) (l := G) (m := [S]) (S := Good (· = gg) W9) (base := W9.heap.size) (by rfl) (by rfl) Op1.out (src_one KSBp1.out.1 HS9.out Tp1.out (fun b e => (Op1.out.lt b e).1)) (by simp; omega) (Tp1.out).size ?_
           intro vp2 wp2 op2 rp2 hp2 bp2
           have Tp2 := Lib.hid (Turn.far Tp1.out bp2)
           have Op2 := Lib.hid (show TyR.Own (Good (· = gg) W9) W9.heap.size vp2 (G ++ [S]) wp2 from op2)
           have Kp2 := Lib.hid ((Kp1.out).grown rp2 (fun k e => by have := (Op1.out.lt k e).1; omega))
           try (have KSLp2 := Lib.hid (And.intro (Blk.grownNe (Turn.blk (tRf gg wp1) KSLp1.out.1 (by have := KSLp1.out.2; omega)) rp2 NELp1.out) KSLp1.out.2))
           have Qp2 := Lib.hid (Turn.free (n := W9.heap.size - 1) Tp2.out)
           have Qp2L := Lib.hid (Turn.free (n := W9.heap.size - 1) (Tp2.out.trans (tAl gg _ (Obj.cells #[.int .i64 0, .int .i64 0, .int .i64 0, .slice none 0 0, .slice none 0 0] 34))))
           have C2 := Lib.hid (own_ctx Op2.out z_W9 HGS.out)
           clear op2 rp2 hp2 bp2)
        | (refine step_append_ty (w := ((wp1.alloc (Obj.cells #[.int .i64 0, .int .i64 0, .int .i64 0, .slice none 0 0, .slice none 0 0] 34)).alloc (Obj.cells #[.int .i64 S.kind, .slice A4 S.args.length c4] 30))) (by rfl) (.tmp 34) (.tmp 36) (by rfl) (v := vp1) (u := .slice (some ⟨wp1.heap.size + 1, 0, none⟩) 1 1) (l := G) (m := [S]) (S := Good (· = gg) W9) (base := W9.heap.size) (by rfl) (by rfl) ((Op1.out.below (below_box wp1 (Obj.cells #[.int .i64 0, .int .i64 0, .int .i64 0, .slice none 0 0, .slice none 0 0] 34))).below (below_box _ (Obj.cells #[.int .i64 S.kind, .slice A4 S.args.length c4] 30))) (src_one (blk_new1 wp1 (Obj.cells #[.int .i64 0, .int .i64 0, .int .i64 0, .slice none 0 0, .slice none 0 0] 34) #[.int .i64 S.kind, .slice A4 S.args.length c4] 30) HS9.out ((Tp1.out.trans (tAl gg _ (Obj.cells #[.int .i64 0, .int .i64 0, .int .i64 0, .slice none 0 0, .slice none 0 0] 34))).trans (tAl gg _ (Obj.cells #[.int .i64 S.kind, .slice A4 S.args.length c4] 30))) (fun b e => (Op1.out.lt b e).1)) (by simp; omega) (((Tp1.out.trans (tAl gg _ (Obj.cells #[.int .i64 0, .int .i64 0, .int .i64 0, .slice none 0 0, .slice none 0 0] 34))).trans (tAl gg _ (Obj.cells #[.int .i64 S.kind, .slice A4 S.args.length c4] 30)))).size ?_
           intro vp2 wp2 op2 rp2 hp2 bp2
           have Tp2 := Lib.hid (Turn.far ((Tp1.out.trans (tAl gg _ (Obj.cells #[.int .i64 0, .int .i64 0, .int .i64 0, .slice none 0 0, .slice none 0 0] 34))).trans (tAl gg _ (Obj.cells #[.int .i64 S.kind, .slice A4 S.args.length c4] 30))) bp2)
           have Op2 := Lib.hid (show TyR.Own (Good (· = gg) W9) W9.heap.size vp2 (G ++ [S]) wp2 from op2)
           have Kp2 := Lib.hid (((Deck.box (Deck.box Kp1.out (Obj.cells #[.int .i64 0, .int .i64 0, .int .i64 0, .slice none 0 0, .slice none 0 0] 34)) (Obj.cells #[.int .i64 S.kind, .slice A4 S.args.length c4] 30))).grown rp2 (fun k e => by have := (Op1.out.lt k e).1; omega))
           have KSLp2 := Lib.hid (And.intro (Blk.grownNe (Turn.blk (tAl gg _ (Obj.cells #[.int .i64 S.kind, .slice A4 S.args.length c4] 30)) (Blk.new wp1 34 #[.int .i64 0, .int .i64 0, .int .i64 0, .slice none 0 0, .slice none 0 0]) (by have := Tp1.out.size; omega)) rp2 (own_far Op1.out (by omega))) (show W9.heap.size ≤ wp1.heap.size by have := Tp1.out.size; omega))
           have Qp2 := Lib.hid (Turn.free (n := W9.heap.size - 1) Tp2.out)
           have Qp2L := Lib.hid (Turn.free (n := W9.heap.size - 1) (Tp2.out.trans (tAl gg _ (Obj.cells #[.int .i64 0, .int .i64 0, .int .i64 0, .slice none 0 0, .slice none 0 0] 34))))
           have C2 := Lib.hid (own_ctx Op2.out z_W9 HGS.out)
           clear op2 rp2 hp2 bp2)
        | (refine step_append_ty (w := ((wp1.alloc (Obj.cells #[.int .i64 S.kind, .slice A4 S.args.length c4] 30)).alloc (Obj.cells #[.int .i64 0, .int .i64 0, .int .i64 0, .slice none 0 0, .slice none 0 0] 34))) (by rfl) (.tmp 34) (.tmp 36) (by rfl) (v := vp1) (u := .slice (some ⟨wp1.heap.size, 0, none⟩) 1 1) (l := G) (m := [S]) (S := Good (· = gg) W9) (base := W9.heap.size) (by rfl) (by rfl) ((Op1.out.below (below_box wp1 (Obj.cells #[.int .i64 S.kind, .slice A4 S.args.length c4] 30))).below (below_box _ (Obj.cells #[.int .i64 0, .int .i64 0, .int .i64 0, .slice none 0 0, .slice none 0 0] 34))) (src_one (Turn.blk (tAl gg _ (Obj.cells #[.int .i64 0, .int .i64 0, .int .i64 0, .slice none 0 0, .slice none 0 0] 34)) (Blk.new wp1 30 #[.int .i64 S.kind, .slice A4 S.args.length c4]) (by have := Tp1.out.size; omega)) HS9.out ((Tp1.out.trans (tAl gg _ (Obj.cells #[.int .i64 S.kind, .slice A4 S.args.length c4] 30))).trans (tAl gg _ (Obj.cells #[.int .i64 0, .int .i64 0, .int .i64 0, .slice none 0 0, .slice none 0 0] 34))) (fun b e => (Op1.out.lt b e).1)) (by simp; omega) (((Tp1.out.trans (tAl gg _ (Obj.cells #[.int .i64 S.kind, .slice A4 S.args.length c4] 30))).trans (tAl gg _ (Obj.cells #[.int .i64 0, .int .i64 0, .int .i64 0, .slice none 0 0, .slice none 0 0] 34)))).size ?_
           intro vp2 wp2 op2 rp2 hp2 bp2
           have Tp2 := Lib.hid (Turn.far ((Tp1.out.trans (tAl gg _ (Obj.cells #[.int .i64 S.kind, .slice A4 S.args.length c4] 30))).trans (tAl gg _ (Obj.cells #[.int .i64 0, .int .i64 0, .int .i64 0, .slice none 0 0, .slice none 0 0] 34))) bp2)
           have Op2 := Lib.hid (show TyR.Own (Good (· = gg) W9) W9.heap.size vp2 (G ++ [S]) wp2 from op2)
           have Kp2 := Lib.hid (((Deck.box (Deck.box Kp1.out (Obj.cells #[.int .i64 S.kind, .slice A4 S.args.length c4] 30)) (Obj.cells #[.int .i64 0, .int .i64 0, .int .i64 0, .slice none 0 0, .slice none 0 0] 34))).grown rp2 (fun k e => by have := (Op1.out.lt k e).1; omega))
           have KSLp2 := Lib.hid (And.intro (Blk.grownNe (blk_new1 wp1 (Obj.cells #[.int .i64 S.kind, .slice A4 S.args.length c4] 30) #[.int .i64 0, .int .i64 0, .int .i64 0, .slice none 0 0, .slice none 0 0] 34) rp2 (own_far Op1.out (by omega))) (show W9.heap.size ≤ wp1.heap.size + 1 by have := Tp1.out.size; omega))
           have Qp2 := Lib.hid (Turn.free (n := W9.heap.size - 1) Tp2.out)
           have Qp2L := Lib.hid (Turn.free (n := W9.heap.size - 1) (Tp2.out.trans (tAl gg _ (Obj.cells #[.int .i64 0, .int .i64 0, .int .i64 0, .slice none 0 0, .slice none 0 0] 34))))
           have C2 := Lib.hid (own_ctx Op2.out z_W9 HGS.out)
           clear op2 rp2 hp2 bp2)
        | (refine step_append_ty (w := (wp1.alloc (Obj.cells #[.int .i64 S.kind, .slice A4 S.args.length c4] 30))) (by rfl) (.tmp 34) (.tmp 36) (by rfl) (v := vp1) (u := .slice (some ⟨wp1.heap.size, 0, none⟩) 1 1) (l := G) (m := [S]) (S := Good (· = gg) W9) (base := W9.heap.size) (by rfl) (by rfl) (Op1.out.below (below_box wp1 (Obj.cells #[.int .i64 S.kind, .slice A4 S.args.length c4] 30))) (src_one (Blk.new wp1 30 #[.int .i64 S.kind, .slice A4 S.args.length c4]) HS9.out (Tp1.out.trans (tAl gg _ (Obj.cells #[.int .i64 S.kind, .slice A4 S.args.length c4] 30))) (fun b e => (Op1.out.lt b e).1)) (by simp; omega) ((Tp1.out.trans (tAl gg _ (Obj.cells #[.int .i64 S.kind, .slice A4 S.args.length c4] 30)))).size ?_
           intro vp2 wp2 op2 rp2 hp2 bp2
           have Tp2 := Lib.hid (Turn.far (Tp1.out.trans (tAl gg _ (Obj.cells #[.int .i64 S.kind, .slice A4 S.args.length c4] 30))) bp2)
           have Op2 := Lib.hid (show TyR.Own (Good (· = gg) W9) W9.heap.size vp2 (G ++ [S]) wp2 from op2)
           have Kp2 := Lib.hid (((Deck.box Kp1.out (Obj.cells #[.int .i64 S.kind, .slice A4 S.args.length c4] 30))).grown rp2 (fun k e => by have := (Op1.out.lt k e).1; omega))
           try (have KSLp2 := Lib.hid (And.intro (Blk.grownNe (Turn.blk (tAl gg _ (Obj.cells #[.int .i64 S.kind, .slice A4 S.args.length c4] 30)) KSLp1.out.1 (by have := KSLp1.out.2; omega)) rp2 NELp1.out) KSLp1.out.2))
           have Qp2 := Lib.hid (Turn.free (n := W9.heap.size - 1) Tp2.out)
           have Qp2L := Lib.hid (Turn.free (n := W9.heap.size - 1) (Tp2.out.trans (tAl gg _ (Obj.cells #[.int .i64 0, .int .i64 0, .int .i64 0, .slice none 0 0, .slice none 0 0] 34))))
           have C2 := Lib.hid (own_ctx Op2.out z_W9 HGS.out)
           clear op2 rp2 hp2 bp2)
        | (refine step_append_ty (w := ((W9.alloc (Obj.cells #[.int .i64 0, .int .i64 0, .int .i64 0, .slice none 0 0, .slice none 0 0] 34)).alloc (Obj.cells #[.int .i64 S.kind, .slice A4 S.args.length c4] 30)).drew) (by rfl) (.const (.slice none 0 0)) (.tmp 33) (by rfl) (v := .slice none 0 0) (u := .slice A3 G.length c3) (l := []) (m := G) (S := Good (· = gg) W9) (base := W9.heap.size) (by rfl) (by rfl) (Rep.Own.nil (R := TyR) _ _ _) (src_ctx HC9.out (((tAl gg _ (Obj.cells #[.int .i64 0, .int .i64 0, .int .i64 0, .slice none 0 0, .slice none 0 0] 34)).trans (tAl gg _ (Obj.cells #[.int .i64 S.kind, .slice A4 S.args.length c4] 30))).trans (tDr gg _)) (by simp [Value.ownBlock])) (by simp; omega) ((((tAl gg _ (Obj.cells #[.int .i64 0, .int .i64 0, .int .i64 0, .slice none 0 0, .slice none 0 0] 34)).trans (tAl gg _ (Obj.cells #[.int .i64 S.kind, .slice A4 S.args.length c4] 30))).trans (tDr gg _))).size ?_
           intro vp1 wp1 op1 rp1 hp1 bp1
           have Tp1 := Lib.hid (Turn.far (((tAl gg _ (Obj.cells #[.int .i64 0, .int .i64 0, .int .i64 0, .slice none 0 0, .slice none 0 0] 34)).trans (tAl gg _ (Obj.cells #[.int .i64 S.kind, .slice A4 S.args.length c4] 30))).trans (tDr gg _)) bp1)
           have Op1 := Lib.hid (show TyR.Own (Good (· = gg) W9) W9.heap.size vp1 ([] ++ G) wp1 from op1)
           have Kp1 := Lib.hid (((Deck.drewd (Deck.box (Deck.box D_W9.out (Obj.cells #[.int .i64 0, .int .i64 0, .int .i64 0, .slice none 0 0, .slice none 0 0] 34)) (Obj.cells #[.int .i64 S.kind, .slice A4 S.args.length c4] 30)))).grown rp1 (by simp [Value.ownBlock]))
           have KSBp1 := Lib.hid (And.intro (Blk.grownNe (Turn.blk (tDr gg _) (blk_new1 W9 (Obj.cells #[.int .i64 0, .int .i64 0, .int .i64 0, .slice none 0 0, .slice none 0 0] 34) #[.int .i64 S.kind, .slice A4 S.args.length c4] 30) (by have := (Nat.le_refl W9.heap.size); omega)) rp1 (by simp [Value.ownBlock])) (show W9.heap.size ≤ W9.heap.size + 1 by have := (Nat.le_refl W9.heap.size); omega))
           have NEBp1 := Lib.hid (own_ne hp1 rfl (show W9.heap.size + 1 < _ by simp <;> omega))
           have KSLp1 := Lib.hid (And.intro (Blk.grownNe (Turn.blk ((tAl gg _ (Obj.cells #[.int .i64 S.kind, .slice A4 S.args.length c4] 30)).trans (tDr gg _)) (Blk.new W9 34 #[.int .i64 0, .int .i64 0, .int .i64 0, .slice none 0 0, .slice none 0 0]) (by have := (Nat.le_refl W9.heap.size); omega)) rp1 (by simp [Value.ownBlock])) (show W9.heap.size ≤ W9.heap.size by have := (Nat.le_refl W9.heap.size); omega))
           have NELp1 := Lib.hid (own_ne hp1 rfl (show W9.heap.size < _ by simp <;> omega))
           have Qp1 := Lib.hid (Turn.free (n := W9.heap.size - 1) Tp1.out)
           have Qp1B := Lib.hid (Turn.free (n := W9.heap.size - 1) (Tp1.out.trans (tAl gg _ (Obj.cells #[.int .i64 S.kind, .slice A4 S.args.length c4] 30))))
           have Qp1L := Lib.hid (Turn.free (n := W9.heap.size - 1) (Tp1.out.trans (tAl gg _ (Obj.cells #[.int .i64 0, .int .i64 0, .int .i64 0, .slice none 0 0, .slice none 0 0] 34))))
           have Qp1BL := Lib.hid (Turn.free (n := W9.heap.size - 1) ((Tp1.out.trans (tAl gg _ (Obj.cells #[.int .i64 S.kind, .slice A4 S.args.length c4] 30))).trans (tAl gg _ (Obj.cells #[.int .i64 0, .int .i64 0, .int .i64 0, .slice none 0 0, .slice none 0 0] 34))))
           have Qp1LB := Lib.hid (Turn.free (n := W9.heap.size - 1) ((Tp1.out.trans (tAl gg _ (Obj.cells #[.int .i64 0, .int .i64 0, .int .i64 0, .slice none 0 0, .slice none 0 0] 34))).trans (tAl gg _ (Obj.cells #[.int .i64 S.kind, .slice A4 S.args.length c4] 30))))
           clear op1 rp1 hp1 bp1)
        | (refine step_append_ty (w := ((W9.alloc (Obj.cells #[.int .i64 S.kind, .slice A4 S.args.length c4] 30)).alloc (Obj.cells #[.int .i64 0, .int .i64 0, .int .i64 0, .slice none 0 0, .slice none 0 0] 34)).drew) (by rfl) (.const (.slice none 0 0)) (.tmp 33) (by rfl) (v := .slice none 0 0) (u := .slice A3 G.length c3) (l := []) (m := G) (S := Good (· = gg) W9) (base := W9.heap.size) (by rfl) (by rfl) (Rep.Own.nil (R := TyR) _ _ _) (src_ctx HC9.out (((tAl gg _ (Obj.cells #[.int .i64 S.kind, .slice A4 S.args.length c4] 30)).trans (tAl gg _ (Obj.cells #[.int .i64 0, .int .i64 0, .int .i64 0, .slice none 0 0, .slice none 0 0] 34))).trans (tDr gg _)) (by simp [Value.ownBlock])) (by simp; omega) ((((tAl gg _ (Obj.cells #[.int .i64 S.kind, .slice A4 S.args.length c4] 30)).trans (tAl gg _ (Obj.cells #[.int .i64 0, .int .i64 0, .int .i64 0, .slice none 0 0, .slice none 0 0] 34))).trans (tDr gg _))).size ?_
           intro vp1 wp1 op1 rp1 hp1 bp1
           have Tp1 := Lib.hid (Turn.far (((tAl gg _ (Obj.cells #[.int .i64 S.kind, .slice A4 S.args.length c4] 30)).trans (tAl gg _ (Obj.cells #[.int .i64 0, .int .i64 0, .int .i64 0, .slice none 0 0, .slice none 0 0] 34))).trans (tDr gg _)) bp1)
           have Op1 := Lib.hid (show TyR.Own (Good (· = gg) W9) W9.heap.size vp1 ([] ++ G) wp1 from op1)
           have Kp1 := Lib.hid (((Deck.drewd (Deck.box (Deck.box D_W9.out (Obj.cells #[.int .i64 S.kind, .slice A4 S.args.length c4] 30)) (Obj.cells #[.int .i64 0, .int .i64 0, .int .i64 0, .slice none 0 0, .slice none 0 0] 34)))).grown rp1 (by simp [Value.ownBlock]))
           have KSBp1 := Lib.hid (And.intro (Blk.grownNe (Turn.blk ((tAl gg _ (Obj.cells #[.int .i64 0, .int .i64 0, .int .i64 0, .slice none 0 0, .slice none 0 0] 34)).trans (tDr gg _)) (Blk.new W9 30 #[.int .i64 S.kind, .slice A4 S.args.length c4]) (by have := (Nat.le_refl W9.heap.size); omega)) rp1 (by simp [Value.ownBlock])) (show W9.heap.size ≤ W9.heap.size by have := (Nat.le_refl W9.heap.size); omega))
           have NEBp1 := Lib.hid (own_ne hp1 rfl (show W9.heap.size < _ by simp <;> omega))
           have KSLp1 := Lib.hid (And.intro (Blk.grownNe (Turn.blk (tDr gg _) (blk_new1 W9 (Obj.cells #[.int .i64 S.kind, .slice A4 S.args.length c4] 30) #[.int .i64 0, .int .i64 0, .int .i64 0, .slice none 0 0, .slice none 0 0] 34) (by have := (Nat.le_refl W9.heap.size); omega)) rp1 (by simp [Value.ownBlock])) (show W9.heap.size ≤ W9.heap.size + 1 by have := (Nat.le_refl W9.heap.size); omega))
           have NELp1 := Lib.hid (own_ne hp1 rfl (show W9.heap.size + 1 < _ by simp <;> omega))
           have Qp1 := Lib.hid (Turn.free (n := W9.heap.size - 1) Tp1.out)
           have Qp1B := Lib.hid (Turn.free (n := W9.heap.size - 1) (Tp1.out.trans (tAl gg _ (Obj.cells #[.int .i64 S.kind, .slice A4 S.args.length c4] 30))))
           have Qp1L := Lib.hid (Turn.free (n := W9.heap.size - 1) (Tp1.out.trans (tAl gg _ (Obj.cells #[.int .i64 0, .int .i64 0, .int .i64 0, .slice none 0 0, .slice none 0 0] 34))))
           have Qp1BL := Lib.hid (Turn.free (n := W9.heap.size - 1) ((Tp1.out.trans (tAl gg _ (Obj.cells #[.int .i64 S.kind, .slice A4 S.args.length c4] 30))).trans (tAl gg _ (Obj.cells #[.int .i64 0, .int .i64 0, .int .i64 0, .slice none 0 0, .slice none 0 0] 34))))
           have Qp1LB := Lib.hid (Turn.free (n := W9.heap.size - 1) ((Tp1.out.trans (tAl gg _ (Obj.cells #[.int .i64 0, .int .i64 0, .int .i64 0, .slice none 0 0, .slice none 0 0] 34))).trans (tAl gg _ (Obj.cells #[.int .i64 S.kind, .slice A4 S.args.length c4] 30))))
           clear op1 rp1 hp1 bp1)
        | (refine step_append_ty (w := (W9.alloc (Obj.cells #[.int .i64 0, .int .i64 0, .int .i64 0, .slice none 0 0, .slice none 0 0] 34)).drew) (by rfl) (.const (.slice none 0 0)) (.tmp 33) (by rfl) (v := .slice none 0 0) (u := .slice A3 G.length c3) (l := []) (m := G) (S := Good (· = gg) W9) (base := W9.heap.size) (by rfl) (by rfl) (Rep.Own.nil (R := TyR) _ _ _) (src_ctx HC9.out ((tAl gg _ (Obj.cells #[.int .i64 0, .int .i64 0, .int .i64 0, .slice none 0 0, .slice none 0 0] 34)).trans (tDr gg _)) (by simp [Value.ownBlock])) (by simp; omega) (((tAl gg _ (Obj.cells #[.int .i64 0, .int .i64 0, .int .i64 0, .slice none 0 0, .slice none 0 0] 34)).trans (tDr gg _))).size ?_
           intro vp1 wp1 op1 rp1 hp1 bp1
           have Tp1 := Lib.hid (Turn.far ((tAl gg _ (Obj.cells #[.int .i64 0, .int .i64 0, .int .i64 0, .slice none 0 0, .slice none 0 0] 34)).trans (tDr gg _)) bp1)
           have Op1 := Lib.hid (show TyR.Own (Good (· = gg) W9) W9.heap.size vp1 ([] ++ G) wp1 from op1)
           have Kp1 := Lib.hid (((Deck.drewd (Deck.box D_W9.out (Obj.cells #[.int .i64 0, .int .i64 0, .int .i64 0, .slice none 0 0, .slice none 0 0] 34)))).grown rp1 (by simp [Value.ownBlock]))
           have KSLp1 := Lib.hid (And.intro (Blk.grownNe (Turn.blk (tDr gg _) (Blk.new W9 34 #[.int .i64 0, .int .i64 0, .int .i64 0, .slice none 0 0, .slice none 0 0]) (by have := (Nat.le_refl W9.heap.size); omega)) rp1 (by simp [Value.ownBlock])) (show W9.heap.size ≤ W9.heap.size by have := (Nat.le_refl W9.heap.size); omega))
           have NELp1 := Lib.hid (own_ne hp1 rfl (show W9.heap.size < _ by simp <;> omega))
           have Qp1 := Lib.hid (Turn.free (n := W9.heap.size - 1) Tp1.out)
           have Qp1B := Lib.hid (Turn.free (n := W9.heap.size - 1) (Tp1.out.trans (tAl gg _ (Obj.cells #[.int .i64 S.kind, .slice A4 S.args.length c4] 30))))
           have Qp1L := Lib.hid (Turn.free (n := W9.heap.size - 1) (Tp1.out.trans (tAl gg _ (Obj.cells #[.int .i64 0, .int .i64 0, .int .i64 0, .slice none 0 0, .slice none 0 0] 34))))
           have Qp1BL := Lib.hid (Turn.free (n := W9.heap.size - 1) ((Tp1.out.trans (tAl gg _ (Obj.cells #[.int .i64 S.kind, .slice A4 S.args.length c4] 30))).trans (tAl gg _ (Obj.cells #[.int .i64 0, .int .i64 0, .int .i64 0, .slice none 0 0, .slice none 0 0] 34))))
           have Qp1LB := Lib.hid (Turn.free (n := W9.heap.size - 1) ((Tp1.out.trans (tAl gg _ (Obj.cells #[.int .i64 0, .int .i64 0, .int .i64 0, .slice none 0 0, .slice none 0 0] 34))).trans (tAl gg _ (Obj.cells #[.int .i64 S.kind, .slice A4 S.args.length c4] 30))))
           clear op1 rp1 hp1 bp1)
        | (refine step_append_ty (w := (W9.alloc (Obj.cells #[.int .i64 S.kind, .slice A4 S.args.length c4] 30)).drew) (by rfl) (.const (.slice none 0 0)) (.tmp 33) (by rfl) (v := .slice none 0 0) (u := .slice A3 G.length c3) (l := []) (m := G) (S := Good (· = gg) W9) (base := W9.heap.size) (by rfl) (by rfl) (Rep.Own.nil (R := TyR) _ _ _) (src_ctx HC9.out ((tAl gg _ (Obj.cells #[.int .i64 S.kind, .slice A4 S.args.length c4] 30)).trans (tDr gg _)) (by simp [Value.ownBlock])) (by simp; omega) (((tAl gg _ (Obj.cells #[.int .i64 S.kind, .slice A4 S.args.length c4] 30)).trans (tDr gg _))).size ?_
           intro vp1 wp1 op1 rp1 hp1 bp1
           have Tp1 := Lib.hid (Turn.far ((tAl gg _ (Obj.cells #[.int .i64 S.kind, .slice A4 S.args.length c4] 30)).trans (tDr gg _)) bp1)
           have Op1 := Lib.hid (show TyR.Own (Good (· = gg) W9) W9.heap.size vp1 ([] ++ G) wp1 from op1)
           have Kp1 := Lib.hid (((Deck.drewd (Deck.box D_W9.out (Obj.cells #[.int .i64 S.kind, .slice A4 S.args.length c4] 30)))).grown rp1 (by simp [Value.ownBlock]))
           have KSBp1 := Lib.hid (And.intro (Blk.grownNe (Turn.blk (tDr gg _) (Blk.new W9 30 #[.int .i64 S.kind, .slice A4 S.args.length c4]) (by have := (Nat.le_refl W9.heap.size); omega)) rp1 (by simp [Value.ownBlock])) (show W9.heap.size ≤ W9.heap.size by have := (Nat.le_refl W9.heap.size); omega))
           have NEBp1 := Lib.hid (own_ne hp1 rfl (show W9.heap.size < _ by simp <;> omega))
           have Qp1 := Lib.hid (Turn.free (n := W9.heap.size - 1) Tp1.out)
           have Qp1B := Lib.hid (Turn.free (n := W9.heap.size - 1) (Tp1.out.trans (tAl gg _ (Obj.cells #[.int .i64 S.kind, .slice A4 S.args.length c4] 30))))
           have Qp1L := Lib.hid (Turn.free (n := W9.heap.size - 1) (Tp1.out.trans (tAl gg _ (Obj.cells #[.int .i64 0, .int .i64 0, .int .i64 0, .slice none 0 0, .slice none 0 0] 34))))
           have Qp1BL := Lib.hid (Turn.free (n := W9.heap.size - 1) ((Tp1.out.trans (tAl gg _ (Obj.cells #[.int .i64 S.kind, .slice A4 S.args.length c4] 30))).trans (tAl gg _ (Obj.cells #[.int .i64 0, .int .i64 0, .int .i64 0, .slice none 0 0, .slice none 0 0] 34))))
           have Qp1LB := Lib.hid (Turn.free (n := W9.heap.size - 1) ((Tp1.out.trans (tAl gg _ (Obj.cells #[.int .i64 0, .int .i64 0, .int .i64 0, .slice none 0 0, .slice none 0 0] 34))).trans (tAl gg _ (Obj.cells #[.int .i64 S.kind, .slice A4 S.args.length c4] 30))))
           clear op1 rp1 hp1 bp1)
        | (refine step_append_ty (w := W9.drew) (by rfl) (.const (.slice none 0 0)) (.tmp 33) (by rfl) (v := .slice none 0 0) (u := .slice A3 G.length c3) (l := []) (m := G) (S := Good (· = gg) W9) (base := W9.heap.size) (by rfl) (by rfl) (Rep.Own.nil (R := TyR) _ _ _) (src_ctx HC9.out (tDr gg _) (by simp [Value.ownBlock])) (by simp; omega) ((tDr gg _)).size ?_
           intro vp1 wp1 op1 rp1 hp1 bp1
           have Tp1 := Lib.hid (Turn.far (tDr gg _) bp1)
           have Op1 := Lib.hid (show TyR.Own (Good (· = gg) W9) W9.heap.size vp1 ([] ++ G) wp1 from op1)
           have Kp1 := Lib.hid (((Deck.drewd D_W9.out)).grown rp1 (by simp [Value.ownBlock]))
           have Qp1 := Lib.hid (Turn.free (n := W9.heap.size - 1) Tp1.out)
           have Qp1B := Lib.hid (Turn.free (n := W9.heap.size - 1) (Tp1.out.trans (tAl gg _ (Obj.cells #[.int .i64 S.kind, .slice A4 S.args.length c4] 30))))
           have Qp1L := Lib.hid (Turn.free (n := W9.heap.size - 1) (Tp1.out.trans (tAl gg _ (Obj.cells #[.int .i64 0, .int .i64 0, .int .i64 0, .slice none 0 0, .slice none 0 0] 34))))
           have Qp1BL := Lib.hid (Turn.free (n := W9.heap.size - 1) ((Tp1.out.trans (tAl gg _ (Obj.cells #[.int .i64 S.kind, .slice A4 S.args.length c4] 30))).trans (tAl gg _ (Obj.cells #[.int .i64 0, .int .i64 0, .int .i64 0, .slice none 0 0, .slice none 0 0] 34))))
           have Qp1LB := Lib.hid (Turn.free (n := W9.heap.size - 1) ((Tp1.out.trans (tAl gg _ (Obj.cells #[.int .i64 0, .int .i64 0, .int .i64 0, .slice none 0 0, .slice none 0 0] 34))).trans (tAl gg _ (Obj.cells #[.int .i64 S.kind, .slice A4 S.args.length c4] 30))))
           clear op1 rp1 hp1 bp1))
    all_goals (go_wp2_with fail; go_meet; first | exact END.out | exact ENDN.out)
  case rest =>
    obtain ⟨q, y, By, ey, Ay, cy, rfl, hy, ky, hq, ty, dy, uy⟩ := hcut
    obtain ⟨wd, hwd⟩ : ∃ x, x = wc := ⟨_, rfl⟩
    subst hwd
    rw [HYY.out] at hy
    obtain ⟨x, hx, hyx⟩ := hy
    have hF : Made G (tyFun S U) (1 + bdN ((1 : Int)).toNat U) (bdO ((1 : Int)).toNat U) y := by rw [hyx]; exact made_lam HS.out.1 nS (by omega) hx
    have HF := Lib.hid hF
    have bF : y.bulk ≤ 12020 := by rw [hyx]; exact bulkN1 nS (Nat.le_trans (hx.bulk_le (bdN_le _ (by simp))) (by omega))
    have KY := Lib.hid ky
    have XY := Lib.hid (show Trm W9.heap.size wd y _ from IsTm.keep (fun b h => ⟨h.1, h.2.2⟩) (fun _ _ => rfl) _ ty)
    have D_wd := Lib.hid dy
    have hqg : gg < q := by have := z_W9; omega
    have s_wd := uy
    have b_wd : Below w.heap.size w wd := b_W9.trans (s_wd.toBelow (fun k hk e => by omega) b_W9.size)
    have m_w3_wd := m_w3_W9.trans s_wd
    have m_w4_wd := m_w4_W9.trans s_wd
    have m_w5_wd := m_w5_W9.trans s_wd
    have m_w6_wd := m_w6_W9.trans s_wd
    have m_W7_wd := m_W7_W9.trans s_wd
    have m_W8_wd := m_W8_W9.trans s_wd
    have m_W9_wd := m_W9_W9.trans s_wd
    clear s_wd b_W9 m_w3_W9 m_w4_W9 m_w5_W9 m_w6_W9 m_W7_W9 m_W8_W9 m_W9_W9
    have z_wd : gg < wd.heap.size := D_wd.out.lt
    have m_wd_wd := tRf gg wd
    clear hx hyx ky ty dy uy hF
    have KD := Lib.hid (Turn.blk m_W9_wd KC.out n_W9)
    have nfD : ¬ Free gg (wd.heap.size - 1) (w6.heap.size + 1 + 1) := by have := KD.out.lt; have := n_W9; unfold Free; omega
    have nfY : ¬ Free gg (wd.heap.size - 1) q := by have := KY.out.lt; unfold Free; omega
    have HCD := Lib.hid (Ctx.turn HC3.out m_w3_wd)
    have HVD := Lib.hid (Typ.turn HV.out.2 m_w6_wd)
    have BD := Lib.hid b_wd
    have hGn := nodesAll_small HGO.out
    go_upto_region 9 with fail
    go_cut [11, 12] from 42 to 53 (fun x y wx => RefStep gg wd S U V x y wx)
    case first =>
      have QD := Lib.hid (Turn.free (n := wd.heap.size - 1) (tDr gg wd))
      have QDLN := Lib.hid (Turn.free (n := wd.heap.size - 1) (tAl gg wd (Obj.cells #[.int .i64 0, .slice none 0 0] 30)))
      have QDL := Lib.hid (Turn.free (n := wd.heap.size - 1) ((tAl gg wd (Obj.cells #[.int .i64 0, .slice none 0 0] 30)).trans (tDr gg _)))
      have HSK := Lib.hid fun (w' : World) (h : Turn (Free gg (wd.heap.size - 1)) wd w') => And.intro (h.blk KY.out nfY).facts5.1 (And.intro (h.blk KY.out nfY).facts5.2.1 (And.intro (h.blk KY.out nfY).facts5.2.2.1 (And.intro (h.blk KY.out nfY).facts5.2.2.2.1 (And.intro (h.blk KY.out nfY).facts5.2.2.2.2.1 (And.intro (h.blk KD.out nfD).facts2.1 ((h.blk KD.out nfD).facts2.2.1))))))
      obtain ⟨q0, q1, q2, q3, q4, q5, q6⟩ := HSK.out wd (Turn.refl _ _)
      go_region_held3 (fun w' => w'.cell? ⟨q, 0, none⟩ = some (.int .i64 y.kind) ∧ w'.cell? ⟨q, 1, none⟩ = some (.int .i64 y.index) ∧ w'.cell? ⟨q, 2, none⟩ = some (.int .i64 y.type.kind) ∧ w'.cell? ⟨q, 3, none⟩ = some (.slice By y.type.args.length ey) ∧ w'.cell? ⟨q, 4, none⟩ = some (.slice Ay y.args.length cy) ∧ w'.cell? ⟨w6.heap.size + 1 + 1, 0, none⟩ = some (.int .i64 V.kind) ∧ w'.cell? ⟨w6.heap.size + 1 + 1, 1, none⟩ = some (.slice A6 V.args.length c6))
        (first | with_reducible exact HSK.out _ QD.out | with_reducible exact HSK.out _ QDLN.out | with_reducible exact HSK.out _ QDL.out | with_reducible exact HSK.out _ Qp5.out | with_reducible exact HSK.out _ Qp5O.out | with_reducible exact HSK.out _ Qp5L.out | with_reducible exact HSK.out _ Qp5OL.out | with_reducible exact HSK.out _ Qp5LO.out | with_reducible exact HSK.out _ Qp6.out | with_reducible exact HSK.out _ Qp6L.out | with_reducible exact HSK.out _ Qp7.out | with_reducible exact HSK.out _ Qp7L.out | with_reducible exact HSK.out _ QF7.out | with_reducible exact HSK.out _ QS7.out)
        (first
          | (go_at_call 21
             have Pp7 := typeTop_two Ep6.out.2 HU.out.1 (HTab.out.after (BD.out.trans (((Tp6.out.trans (tAl gg _ (Obj.cells #[.int .i64 0, .slice none 0 0] 30)))).toBelow (fun k hk e => by have e' : k = gg := e; omega) BD.out.size))) Ep6.out.1 (by omega) (by omega) HGN.out ((Ctx.turn HCD.out (Tp6.out.trans (tAl gg _ (Obj.cells #[.int .i64 0, .slice none 0 0] 30)))).sl.keep (fun _ h => h.2) (fun _ _ => rfl)) (Trm.below (Trm.turn Xp6.out (tAl gg _ (Obj.cells #[.int .i64 0, .slice none 0 0] 30)) z_wd))
             (with_reducible refine Pp7.mono ?_)
             rintro e wp7 ⟨yp7, vp7, er, rfl, hp7, op7, tp7, bp7⟩
             clear Pp7
             have Tp7 := Lib.hid ((Tp6.out.trans (tAl gg _ (Obj.cells #[.int .i64 0, .slice none 0 0] 30))).trans (tCa gg bp7))
             have Up7 := Lib.hid ((tAl gg _ (Obj.cells #[.int .i64 0, .slice none 0 0] 30)).trans (tCa gg bp7))
             have Kp7 := Lib.hid (Deck.call (Deck.box Kp6.out (Obj.cells #[.int .i64 0, .slice none 0 0] 30)) bp7)
             have KSLp7 := Lib.hid (And.intro (Turn.blk ((tCa gg bp7)) (Blk.new wp6 30 #[.int .i64 0, .slice none 0 0]) (by have := Tp6.out.size; omega)) (show wd.heap.size ≤ wp6.heap.size by have := Tp6.out.size; omega))
             try (have KSOp7 := Lib.hid (And.intro (Turn.blk Up7.out KSOp6.out.1 (by have := KSOp6.out.2; omega)) KSOp6.out.2))
             have Qp7 := Lib.hid (Turn.free (n := wd.heap.size - 1) Tp7.out)
             have Qp7L := Lib.hid (Turn.free (n := wd.heap.size - 1) (Tp7.out.trans (tAl gg _ (Obj.cells #[.int .i64 0, .slice none 0 0] 30))))
             obtain ⟨Ap7, cp7, rfl⟩ := tp7.form
             have ENDN := Lib.hid (show RefStep gg wd S U V _ _ _ from ⟨yp7, er, rfl, hp7, tystep_new Tp7.out Kp7.out tp7⟩)
             (have END := Lib.hid (show RefStep gg wd S U V _ _ _ from ⟨yp7, er, rfl, hp7, tystep_set op7 KSLp7.out.1 z_wd KSLp7.out.2 Tp7.out Kp7.out tp7⟩))
             have QF7 := Lib.hid (Turn.free (n := wd.heap.size - 1) (Tp7.out.trans (tAl gg _ (Obj.cells #[.int .i64 yp7.kind, .slice Ap7 yp7.args.length cp7] 30))))
             (have QS7 := Lib.hid (Turn.trans Qp7.out (free_set2b KSLp7.out z_wd (.int .i64 yp7.kind) (.slice Ap7 yp7.args.length cp7))))
             (obtain ⟨_, _, f0, f1⟩ := KSLp7.out.1.facts2))
          | (go_at_call 21
             have Pp7 := typeTop_two Ep6.out.2 HU.out.1 (HTab.out.after (BD.out.trans ((Tp6.out).toBelow (fun k hk e => by have e' : k = gg := e; omega) BD.out.size))) Ep6.out.1 (by omega) (by omega) HGN.out ((Ctx.turn HCD.out Tp6.out).sl.keep (fun _ h => h.2) (fun _ _ => rfl)) (Trm.below (Trm.turn Xp6.out (tRf gg wp6) z_wd))
             (with_reducible refine Pp7.mono ?_)
             rintro e wp7 ⟨yp7, vp7, er, rfl, hp7, op7, tp7, bp7⟩
             clear Pp7
             have Tp7 := Lib.hid (Tp6.out.trans (tCa gg bp7))
             have Up7 := Lib.hid (tCa gg bp7)
             have Kp7 := Lib.hid (Deck.call Kp6.out bp7)
             try (have KSLp7 := Lib.hid (And.intro (Turn.blk Up7.out KSLp6.out.1 (by have := KSLp6.out.2; omega)) KSLp6.out.2))
             try (have KSOp7 := Lib.hid (And.intro (Turn.blk Up7.out KSOp6.out.1 (by have := KSOp6.out.2; omega)) KSOp6.out.2))
             have Qp7 := Lib.hid (Turn.free (n := wd.heap.size - 1) Tp7.out)
             have Qp7L := Lib.hid (Turn.free (n := wd.heap.size - 1) (Tp7.out.trans (tAl gg _ (Obj.cells #[.int .i64 0, .slice none 0 0] 30))))
             obtain ⟨Ap7, cp7, rfl⟩ := tp7.form
             have ENDN := Lib.hid (show RefStep gg wd S U V _ _ _ from ⟨yp7, er, rfl, hp7, tystep_new Tp7.out Kp7.out tp7⟩)
             try (have END := Lib.hid (show RefStep gg wd S U V _ _ _ from ⟨yp7, er, rfl, hp7, tystep_set op7 KSLp7.out.1 z_wd KSLp7.out.2 Tp7.out Kp7.out tp7⟩))
             have QF7 := Lib.hid (Turn.free (n := wd.heap.size - 1) (Tp7.out.trans (tAl gg _ (Obj.cells #[.int .i64 yp7.kind, .slice Ap7 yp7.args.length cp7] 30))))
             try (have QS7 := Lib.hid (Turn.trans Qp7.out (free_set2b KSLp7.out z_wd (.int .i64 yp7.kind) (.slice Ap7 yp7.args.length cp7))))
             try (obtain ⟨_, _, f0, f1⟩ := KSLp7.out.1.facts2))
          | (go_at_call 22
             have Pp6 := n_call 3 (bulk_2 bF bp5) (sl_ptr (tm_sl2 (Trm.below (Trm.turn XY.out (Tp5.out.trans (tAl gg wp5 (Obj.cells #[.int .i64 0, .slice none 0 0] 30))) z_W9)) (Trm.below (Trm.turn Xp5.out (tAl gg wp5 (Obj.cells #[.int .i64 0, .slice none 0 0] 30)) z_wd))) (World.size_alloc wp5 (Obj.cells #[.int .i64 0, .slice none 0 0] 30)).symm)
             (with_reducible refine Pp6.mono ?_)
             rintro e wp6 ⟨yp6, vp6, hp6, rfl, tp6, rp6⟩
             clear Pp6
             have Tp6 := Lib.hid (((Tp5.out.trans (tAl gg _ (Obj.cells #[.int .i64 0, .slice none 0 0] 30))).trans (tAl gg _ (Obj.cells #[.int .i64 y.kind, .int .i64 y.index, .int .i64 y.type.kind, .slice By y.type.args.length ey, .slice Ay y.args.length cy, .int .i64 yp5.kind, .int .i64 yp5.index, .int .i64 yp5.type.kind, .slice Bp5 yp5.type.args.length ep5, .slice Ap5 yp5.args.length cp5] 34))).trans (tCa gg rp6))
             have Up6 := Lib.hid (((tAl gg _ (Obj.cells #[.int .i64 0, .slice none 0 0] 30)).trans (tAl gg _ (Obj.cells #[.int .i64 y.kind, .int .i64 y.index, .int .i64 y.type.kind, .slice By y.type.args.length ey, .slice Ay y.args.length cy, .int .i64 yp5.kind, .int .i64 yp5.index, .int .i64 yp5.type.kind, .slice Bp5 yp5.type.args.length ep5, .slice Ap5 yp5.args.length cp5] 34))).trans (tCa gg rp6))
             obtain ⟨Bp6, ep6, Ap6, cp6, rfl, _⟩ := IsTm.form tp6
             have Kp6 := Lib.hid (Deck.call (Deck.box (Deck.box Kp5.out (Obj.cells #[.int .i64 0, .slice none 0 0] 30)) (Obj.cells #[.int .i64 y.kind, .int .i64 y.index, .int .i64 y.type.kind, .slice By y.type.args.length ey, .slice Ay y.args.length cy, .int .i64 yp5.kind, .int .i64 yp5.index, .int .i64 yp5.type.kind, .slice Bp5 yp5.type.args.length ep5, .slice Ap5 yp5.args.length cp5] 34)) rp6)
             have Ep6 := Lib.hid (app_made hp6 HF.out Mp5.out (by have h1 : bdN ((1 : Int)).toNat U ≤ 100 := bd_small1 U; have h2 : bdN ((1 : Int)).toNat V ≤ 100 := bd_small1 V; omega) (by omega) HGO.out)
             have Xp6 := Lib.hid (show Trm wd.heap.size wp6 yp6 _ from Trm.mono tp6 (((Tp5.out.trans (tAl gg _ (Obj.cells #[.int .i64 0, .slice none 0 0] 30))).trans (tAl gg _ (Obj.cells #[.int .i64 y.kind, .int .i64 y.index, .int .i64 y.type.kind, .slice By y.type.args.length ey, .slice Ay y.args.length cy, .int .i64 yp5.kind, .int .i64 yp5.index, .int .i64 yp5.type.kind, .slice Bp5 yp5.type.args.length ep5, .slice Ap5 yp5.args.length cp5] 34)))).size)
             clear hp6 tp6
             have KSLp6 := Lib.hid (And.intro (Turn.blk (((tAl gg _ (Obj.cells #[.int .i64 y.kind, .int .i64 y.index, .int .i64 y.type.kind, .slice By y.type.args.length ey, .slice Ay y.args.length cy, .int .i64 yp5.kind, .int .i64 yp5.index, .int .i64 yp5.type.kind, .slice Bp5 yp5.type.args.length ep5, .slice Ap5 yp5.args.length cp5] 34)).trans (tCa gg rp6))) (Blk.new wp5 30 #[.int .i64 0, .slice none 0 0]) (by have := Tp5.out.size; omega)) (show wd.heap.size ≤ wp5.heap.size by have := Tp5.out.size; omega))
             have Qp6 := Lib.hid (Turn.free (n := wd.heap.size - 1) Tp6.out)
             have Qp6L := Lib.hid (Turn.free (n := wd.heap.size - 1) (Tp6.out.trans (tAl gg _ (Obj.cells #[.int .i64 0, .slice none 0 0] 30)))))
          | (go_at_call 22
             have Pp6 := n_call 3 (bulk_2 bF bp5) (sl_alloc (tm_sl2 (Trm.below (Trm.turn XY.out (Tp5.out.trans (tRf gg wp5)) z_W9)) (Trm.below (Trm.turn Xp5.out (tRf gg wp5) z_wd))) (Obj.cells #[.int .i64 0, .slice none 0 0] 30))
             (with_reducible refine Pp6.mono ?_)
             rintro e wp6 ⟨yp6, vp6, hp6, rfl, tp6, rp6⟩
             clear Pp6
             have Tp6 := Lib.hid (((Tp5.out.trans (tAl gg _ (Obj.cells #[.int .i64 y.kind, .int .i64 y.index, .int .i64 y.type.kind, .slice By y.type.args.length ey, .slice Ay y.args.length cy, .int .i64 yp5.kind, .int .i64 yp5.index, .int .i64 yp5.type.kind, .slice Bp5 yp5.type.args.length ep5, .slice Ap5 yp5.args.length cp5] 34))).trans (tAl gg _ (Obj.cells #[.int .i64 0, .slice none 0 0] 30))).trans (tCa gg rp6))
             have Up6 := Lib.hid (((tAl gg _ (Obj.cells #[.int .i64 y.kind, .int .i64 y.index, .int .i64 y.type.kind, .slice By y.type.args.length ey, .slice Ay y.args.length cy, .int .i64 yp5.kind, .int .i64 yp5.index, .int .i64 yp5.type.kind, .slice Bp5 yp5.type.args.length ep5, .slice Ap5 yp5.args.length cp5] 34)).trans (tAl gg _ (Obj.cells #[.int .i64 0, .slice none 0 0] 30))).trans (tCa gg rp6))
             obtain ⟨Bp6, ep6, Ap6, cp6, rfl, _⟩ := IsTm.form tp6
             have Kp6 := Lib.hid (Deck.call (Deck.box (Deck.box Kp5.out (Obj.cells #[.int .i64 y.kind, .int .i64 y.index, .int .i64 y.type.kind, .slice By y.type.args.length ey, .slice Ay y.args.length cy, .int .i64 yp5.kind, .int .i64 yp5.index, .int .i64 yp5.type.kind, .slice Bp5 yp5.type.args.length ep5, .slice Ap5 yp5.args.length cp5] 34)) (Obj.cells #[.int .i64 0, .slice none 0 0] 30)) rp6)
             have Ep6 := Lib.hid (app_made hp6 HF.out Mp5.out (by have h1 : bdN ((1 : Int)).toNat U ≤ 100 := bd_small1 U; have h2 : bdN ((1 : Int)).toNat V ≤ 100 := bd_small1 V; omega) (by omega) HGO.out)
             have Xp6 := Lib.hid (show Trm wd.heap.size wp6 yp6 _ from Trm.mono tp6 (((Tp5.out.trans (tAl gg _ (Obj.cells #[.int .i64 y.kind, .int .i64 y.index, .int .i64 y.type.kind, .slice By y.type.args.length ey, .slice Ay y.args.length cy, .int .i64 yp5.kind, .int .i64 yp5.index, .int .i64 yp5.type.kind, .slice Bp5 yp5.type.args.length ep5, .slice Ap5 yp5.args.length cp5] 34))).trans (tAl gg _ (Obj.cells #[.int .i64 0, .slice none 0 0] 30)))).size)
             clear hp6 tp6
             have KSLp6 := Lib.hid (And.intro (Turn.blk ((tCa gg rp6)) (blk_new1 wp5 (Obj.cells #[.int .i64 y.kind, .int .i64 y.index, .int .i64 y.type.kind, .slice By y.type.args.length ey, .slice Ay y.args.length cy, .int .i64 yp5.kind, .int .i64 yp5.index, .int .i64 yp5.type.kind, .slice Bp5 yp5.type.args.length ep5, .slice Ap5 yp5.args.length cp5] 34) #[.int .i64 0, .slice none 0 0] 30) (by have := Tp5.out.size; omega)) (show wd.heap.size ≤ wp5.heap.size + 1 by have := Tp5.out.size; omega))
             have Qp6 := Lib.hid (Turn.free (n := wd.heap.size - 1) Tp6.out)
             have Qp6L := Lib.hid (Turn.free (n := wd.heap.size - 1) (Tp6.out.trans (tAl gg _ (Obj.cells #[.int .i64 0, .slice none 0 0] 30)))))
          | (go_at_call 22
             have Pp6 := n_call 3 (bulk_2 bF bp5) (tm_sl2 (Trm.below (Trm.turn XY.out (Tp5.out.trans (tRf gg wp5)) z_W9)) (Trm.below (Trm.turn Xp5.out (tRf gg wp5) z_wd)))
             (with_reducible refine Pp6.mono ?_)
             rintro e wp6 ⟨yp6, vp6, hp6, rfl, tp6, rp6⟩
             clear Pp6
             have Tp6 := Lib.hid ((Tp5.out.trans (tAl gg _ (Obj.cells #[.int .i64 y.kind, .int .i64 y.index, .int .i64 y.type.kind, .slice By y.type.args.length ey, .slice Ay y.args.length cy, .int .i64 yp5.kind, .int .i64 yp5.index, .int .i64 yp5.type.kind, .slice Bp5 yp5.type.args.length ep5, .slice Ap5 yp5.args.length cp5] 34))).trans (tCa gg rp6))
             have Up6 := Lib.hid ((tAl gg _ (Obj.cells #[.int .i64 y.kind, .int .i64 y.index, .int .i64 y.type.kind, .slice By y.type.args.length ey, .slice Ay y.args.length cy, .int .i64 yp5.kind, .int .i64 yp5.index, .int .i64 yp5.type.kind, .slice Bp5 yp5.type.args.length ep5, .slice Ap5 yp5.args.length cp5] 34)).trans (tCa gg rp6))
             obtain ⟨Bp6, ep6, Ap6, cp6, rfl, _⟩ := IsTm.form tp6
             have Kp6 := Lib.hid (Deck.call (Deck.box Kp5.out (Obj.cells #[.int .i64 y.kind, .int .i64 y.index, .int .i64 y.type.kind, .slice By y.type.args.length ey, .slice Ay y.args.length cy, .int .i64 yp5.kind, .int .i64 yp5.index, .int .i64 yp5.type.kind, .slice Bp5 yp5.type.args.length ep5, .slice Ap5 yp5.args.length cp5] 34)) rp6)
             have Ep6 := Lib.hid (app_made hp6 HF.out Mp5.out (by have h1 : bdN ((1 : Int)).toNat U ≤ 100 := bd_small1 U; have h2 : bdN ((1 : Int)).toNat V ≤ 100 := bd_small1 V; omega) (by omega) HGO.out)
             have Xp6 := Lib.hid (show Trm wd.heap.size wp6 yp6 _ from Trm.mono tp6 ((Tp5.out.trans (tAl gg _ (Obj.cells #[.int .i64 y.kind, .int .i64 y.index, .int .i64 y.type.kind, .slice By y.type.args.length ey, .slice Ay y.args.length cy, .int .i64 yp5.kind, .int .i64 yp5.index, .int .i64 yp5.type.kind, .slice Bp5 yp5.type.args.length ep5, .slice Ap5 yp5.args.length cp5] 34)))).size)
             clear hp6 tp6
             try (have KSLp6 := Lib.hid (And.intro (Turn.blk Up6.out KSLp5.out.1 (by have := KSLp5.out.2; omega)) KSLp5.out.2))
             have Qp6 := Lib.hid (Turn.free (n := wd.heap.size - 1) Tp6.out)
             have Qp6L := Lib.hid (Turn.free (n := wd.heap.size - 1) (Tp6.out.trans (tAl gg _ (Obj.cells #[.int .i64 0, .slice none 0 0] 30)))))
          | (go_at_call 20
             have Pp5 := term_any gg (4 * 1 + V.nodes + 1) G V 1 _ _ (wd.alloc (Obj.cells #[.int .i64 0, .slice none 0 0] 30)).drew (by simp) (by omega) (by omega) (by simp; omega) HV.out.1 nV (Ctx.turn HCD.out ((tAl gg _ (Obj.cells #[.int .i64 0, .slice none 0 0] 30)).trans (tDr gg _))) (Typ.turn HVD.out ((tAl gg _ (Obj.cells #[.int .i64 0, .slice none 0 0] 30)).trans (tDr gg _))) (Deck.drewd (Deck.box D_wd.out (Obj.cells #[.int .i64 0, .slice none 0 0] 30)))
             (with_reducible refine Pp5.mono ?_)
             rintro e wp5 ⟨yp5, vp5, rfl, mp5, tp5, kp5, up5⟩
             clear Pp5
             have Tp5 := Lib.hid (((tAl gg _ (Obj.cells #[.int .i64 0, .slice none 0 0] 30)).trans (tDr gg _)).trans (up5))
             have Up5 := Lib.hid (((tAl gg _ (Obj.cells #[.int .i64 0, .slice none 0 0] 30)).trans (tDr gg _)).trans (up5))
             obtain ⟨Bp5, ep5, Ap5, cp5, rfl, _⟩ := IsTm.form tp5
             have Xp5 := Lib.hid (show Trm wd.heap.size wp5 yp5 (.agg #[.int .i64 yp5.kind, .int .i64 yp5.index, .int .i64 yp5.type.kind, .slice Bp5 yp5.type.args.length ep5, .slice Ap5 yp5.args.length cp5]) from Trm.mono tp5 (((tAl gg _ (Obj.cells #[.int .i64 0, .slice none 0 0] 30)).trans (tDr gg _))).size)
             have Mp5 := Lib.hid mp5
             have bp5 : yp5.bulk ≤ 12000 := mp5.bulk_le (bdN_le _ (by simp))
             have Kp5 := Lib.hid kp5
             clear mp5 tp5
             have KSLp5 := Lib.hid (And.intro (Turn.blk (((tDr gg _).trans (up5))) (Blk.new wd 30 #[.int .i64 0, .slice none 0 0]) (by have := (Nat.le_refl wd.heap.size); omega)) (show wd.heap.size ≤ wd.heap.size by have := (Nat.le_refl wd.heap.size); omega))
             have Qp5 := Lib.hid (Turn.free (n := wd.heap.size - 1) Tp5.out)
             have Qp5O := Lib.hid (Turn.free (n := wd.heap.size - 1) (Tp5.out.trans (tAl gg _ (Obj.cells #[.int .i64 y.kind, .int .i64 y.index, .int .i64 y.type.kind, .slice By y.type.args.length ey, .slice Ay y.args.length cy, .int .i64 yp5.kind, .int .i64 yp5.index, .int .i64 yp5.type.kind, .slice Bp5 yp5.type.args.length ep5, .slice Ap5 yp5.args.length cp5] 34))))
             have Qp5L := Lib.hid (Turn.free (n := wd.heap.size - 1) (Tp5.out.trans (tAl gg _ (Obj.cells #[.int .i64 0, .slice none 0 0] 30))))
             have Qp5OL := Lib.hid (Turn.free (n := wd.heap.size - 1) ((Tp5.out.trans (tAl gg _ (Obj.cells #[.int .i64 y.kind, .int .i64 y.index, .int .i64 y.type.kind, .slice By y.type.args.length ey, .slice Ay y.args.length cy, .int .i64 yp5.kind, .int .i64 yp5.index, .int .i64 yp5.type.kind, .slice Bp5 yp5.type.args.length ep5, .slice Ap5 yp5.args.length cp5] 34))).trans (tAl gg _ (Obj.cells #[.int .i64 0, .slice none 0 0] 30))))
             have Qp5LO := Lib.hid (Turn.free (n := wd.heap.size - 1) ((Tp5.out.trans (tAl gg _ (Obj.cells #[.int .i64 0, .slice none 0 0] 30))).trans (tAl gg _ (Obj.cells #[.int .i64 y.kind, .int .i64 y.index, .int .i64 y.type.kind, .slice By y.type.args.length ey, .slice Ay y.args.length cy, .int .i64 yp5.kind, .int .i64 yp5.index, .int .i64 yp5.type.kind, .slice Bp5 yp5.type.args.length ep5, .slice Ap5 yp5.args.length cp5] 34)))))
          | (go_at_call 20
             have Pp5 := term_any gg (4 * 1 + V.nodes + 1) G V 1 _ _ wd.drew (by simp) (by omega) (by omega) (by simp; omega) HV.out.1 nV (Ctx.turn HCD.out (tDr gg _)) (Typ.turn HVD.out (tDr gg _)) (Deck.drewd D_wd.out)
             (with_reducible refine Pp5.mono ?_)
             rintro e wp5 ⟨yp5, vp5, rfl, mp5, tp5, kp5, up5⟩
             clear Pp5
             have Tp5 := Lib.hid ((tDr gg _).trans (up5))
             have Up5 := Lib.hid ((tDr gg _).trans (up5))
             obtain ⟨Bp5, ep5, Ap5, cp5, rfl, _⟩ := IsTm.form tp5
             have Xp5 := Lib.hid (show Trm wd.heap.size wp5 yp5 (.agg #[.int .i64 yp5.kind, .int .i64 yp5.index, .int .i64 yp5.type.kind, .slice Bp5 yp5.type.args.length ep5, .slice Ap5 yp5.args.length cp5]) from Trm.mono tp5 ((tDr gg _)).size)
             have Mp5 := Lib.hid mp5
             have bp5 : yp5.bulk ≤ 12000 := mp5.bulk_le (bdN_le _ (by simp))
             have Kp5 := Lib.hid kp5
             clear mp5 tp5
             have Qp5 := Lib.hid (Turn.free (n := wd.heap.size - 1) Tp5.out)
             have Qp5O := Lib.hid (Turn.free (n := wd.heap.size - 1) (Tp5.out.trans (tAl gg _ (Obj.cells #[.int .i64 y.kind, .int .i64 y.index, .int .i64 y.type.kind, .slice By y.type.args.length ey, .slice Ay y.args.length cy, .int .i64 yp5.kind, .int .i64 yp5.index, .int .i64 yp5.type.kind, .slice Bp5 yp5.type.args.length ep5, .slice Ap5 yp5.args.length cp5] 34))))
             have Qp5L := Lib.hid (Turn.free (n := wd.heap.size - 1) (Tp5.out.trans (tAl gg _ (Obj.cells #[.int .i64 0, .slice none 0 0] 30))))
             have Qp5OL := Lib.hid (Turn.free (n := wd.heap.size - 1) ((Tp5.out.trans (tAl gg _ (Obj.cells #[.int .i64 y.kind, .int .i64 y.index, .int .i64 y.type.kind, .slice By y.type.args.length ey, .slice Ay y.args.length cy, .int .i64 yp5.kind, .int .i64 yp5.index, .int .i64 yp5.type.kind, .slice Bp5 yp5.type.args.length ep5, .slice Ap5 yp5.args.length cp5] 34))).trans (tAl gg _ (Obj.cells #[.int .i64 0, .slice none 0 0] 30))))
             have Qp5LO := Lib.hid (Turn.free (n := wd.heap.size - 1) ((Tp5.out.trans (tAl gg _ (Obj.cells #[.int .i64 0, .slice none 0 0] 30))).trans (tAl gg _ (Obj.cells #[.int .i64 y.kind, .int .i64 y.index, .int .i64 y.type.kind, .slice By y.type.args.length ey, .slice Ay y.args.length cy, .int .i64 yp5.kind, .int .i64 yp5.index, .int .i64 yp5.type.kind, .slice Bp5 yp5.type.args.length ep5, .slice Ap5 yp5.args.length cp5] 34))))))
      all_goals (go_wp2_with fail; go_meet; first | exact END.out | exact ENDN.out)
    case rest =>
      obtain ⟨T, er, rfl, hTe, hTS⟩ := hcut
      obtain ⟨qs, As, cs, rfl, ks, hqs, ts, ds, us⟩ := hTS
      obtain ⟨we, hwe⟩ : ∃ x, x = wc := ⟨_, rfl⟩
      subst hwe
      have KS := Lib.hid ks
      have D_we := Lib.hid ds
      have hsg : qs ≠ gg := by have := z_wd; omega
      have s_we := us
      have b_we : Below w.heap.size w we := b_wd.trans (s_we.toBelow (fun k hk e => by omega) b_wd.size)
      have m_w3_we := m_w3_wd.trans s_we
      have m_w4_we := m_w4_wd.trans s_we
      have m_w5_we := m_w5_wd.trans s_we
      have m_w6_we := m_w6_wd.trans s_we
      have m_W7_we := m_W7_wd.trans s_we
      have m_W8_we := m_W8_wd.trans s_we
      have m_W9_we := m_W9_wd.trans s_we
      have m_wd_we := m_wd_wd.trans s_we
      clear s_we b_wd m_w3_wd m_w4_wd m_w5_wd m_w6_wd m_W7_wd m_W8_wd m_W9_wd m_wd_wd
      have z_we : gg < we.heap.size := D_we.out.lt
      have m_we_we := tRf gg we
      have HTT := Lib.hid (show Typ gg we T _ from IsTy.keep (fun b h => ⟨h.1, h.2.2⟩) (fun _ _ => rfl) _ ts)
      clear ks ds us ts hqs
      obtain ⟨k, hk⟩ : ∃ k : Nat, (k : Int) = u % 6 := ⟨(u % 6).toNat, by omega⟩
      have hk6 : k < 6 := by omega
      obtain ⟨U0, hU0, hU0k⟩ : ∃ U0 : Ty, (k < G.length → G[G.length - 1 - k]? = some U0) ∧ U0.ok = true := by
        by_cases h : k < G.length
        · exact ⟨_, fun _ => List.getElem?_eq_getElem (show G.length - 1 - k < G.length by omega), (HGO.out _ (List.getElem_mem (show G.length - 1 - k < G.length by omega))).1⟩
        · exact ⟨tyNat, fun h' => absurd h' h, rfl⟩
      obtain ⟨P, hP⟩ : ∃ P : Tm, P = .mk 1 k .zero [] := ⟨_, rfl⟩
      obtain ⟨hPb, hP1, hP2⟩ := var_made (G := G) k hP (by omega) HGO.out
      have HPT := Lib.hid (show P.typeOf G = if decide (k < G.length) = true then .ok U0 else .error 6 by by_cases h : k < G.length; (have e := hU0 h; rw [List.getElem?_eq_getElem (show G.length - 1 - k < G.length by omega)] at e; cases e; rw [if_pos (by simpa using h), hP1 h]); (rw [if_neg (by simpa using h), hP2 (by omega)]))
      have HP := Lib.hid (And.intro hP hPb)
      have HU0 := Lib.hid hU0
      clear hP hPb hP1 hP2 hU0
      have HKU := Lib.hid hk
      have HTE := Lib.hid hTe
      clear hk hTe
      go_upto_region 11 with fail
      rw [← HKU.out]
      clear HKU
      go_wp2_with fail
      refine (var_any (k : Int) we).mono ?_
      rintro e wf ⟨rfl, hbf⟩
      have s_wf := tCa gg hbf
      have b_wf : Below w.heap.size w wf := b_we.trans (s_wf.toBelow (fun k hk e => by omega) b_we.size)
      have m_w3_wf := m_w3_we.trans s_wf
      have m_w4_wf := m_w4_we.trans s_wf
      have m_w5_wf := m_w5_we.trans s_wf
      have m_w6_wf := m_w6_we.trans s_wf
      have m_W7_wf := m_W7_we.trans s_wf
      have m_W8_wf := m_W8_we.trans s_wf
      have m_W9_wf := m_W9_we.trans s_wf
      have m_wd_wf := m_wd_we.trans s_wf
      have m_we_wf := m_we_we.trans s_wf
      clear s_wf b_we m_w3_we m_w4_we m_w5_we m_w6_we m_W7_we m_W8_we m_W9_we m_wd_we m_we_we
      have z_wf : gg < wf.heap.size := by have := hbf.size; omega
      clear hbf
      go_wp2_with fail
      refine (typeTop_two HPT.out hU0k (HTab.out.after b_wf) HP.out.2 (by omega) (by omega) HGN.out ((Ctx.turn HC3.out m_w3_wf).sl.keep (fun _ h => h.2) (fun _ _ => rfl)) (by rw [HP.out.1]; exact var_is _ _ _)).mono ?_
      rintro e wg ⟨T2, v2, e2, rfl, hT2, ok2, ty2, bg⟩
      obtain ⟨A7, c7, rfl⟩ := ty2.form
      have s_wg := tCa gg bg
      have b_wg : Below w.heap.size w wg := b_wf.trans (s_wg.toBelow (fun k hk e => by omega) b_wf.size)
      have m_w3_wg := m_w3_wf.trans s_wg
      have m_w4_wg := m_w4_wf.trans s_wg
      have m_w5_wg := m_w5_wf.trans s_wg
      have m_w6_wg := m_w6_wf.trans s_wg
      have m_W7_wg := m_W7_wf.trans s_wg
      have m_W8_wg := m_W8_wf.trans s_wg
      have m_W9_wg := m_W9_wf.trans s_wg
      have m_wd_wg := m_wd_wf.trans s_wg
      have m_we_wg := m_we_wf.trans s_wg
      clear s_wg b_wf m_w3_wf m_w4_wf m_w5_wf m_w6_wf m_W7_wf m_W8_wf m_W9_wf m_wd_wf m_we_wf
      have z_wg : gg < wg.heap.size := by have := bg.size; omega
      have HTE2 := Lib.hid hT2
      have HTY2 := Lib.hid ty2
      clear hT2 ty2 bg ok2
      go_upto_region 12 with fail
      obtain ⟨a_wh, y_wh, k_wh⟩ := new_blk (Below.refl wg.heap.size wg) (Nat.le_refl _) #[.int .i64 T2.kind, .slice A7 T2.args.length c7] 30
      generalize wg.alloc (Obj.cells #[.int .i64 T2.kind, .slice A7 T2.args.length c7] 30) = wh at a_wh y_wh k_wh ⊢
      have s_wh := tCa gg a_wh
      have b_wh : Below w.heap.size w wh := b_wg.trans (s_wh.toBelow (fun k hk e => by omega) b_wg.size)
      have m_w3_wh := m_w3_wg.trans s_wh
      have m_w4_wh := m_w4_wg.trans s_wh
      have m_w5_wh := m_w5_wg.trans s_wh
      have m_w6_wh := m_w6_wg.trans s_wh
      have m_W7_wh := m_W7_wg.trans s_wh
      have m_W8_wh := m_W8_wg.trans s_wh
      have m_W9_wh := m_W9_wg.trans s_wh
      have m_wd_wh := m_wd_wg.trans s_wh
      have m_we_wh := m_we_wg.trans s_wh
      clear s_wh b_wg m_w3_wg m_w4_wg m_w5_wg m_w6_wg m_W7_wg m_W8_wg m_W9_wg m_wd_wg m_we_wg
      have m_wh_wh := tRf gg wh
      have KT := Lib.hid k_wh
      have ngt : wg.heap.size ≠ gg := by omega
      have HTYH := Lib.hid (HTY2.out.boxed' a_wh)
      have z_wh : gg < wh.heap.size := by have := a_wh.size; omega
      clear a_wh y_wh k_wh
      obtain ⟨h1, h2⟩ | ⟨h1, h2⟩ : (k < G.length ∧ T2 = U0 ∧ e2 = 0) ∨ (G.length ≤ k ∧ e2 = 6) := by
        rcases HTE2.out with ⟨x, y, z⟩ | ⟨x, _, z⟩
        · exact .inl ⟨by simpa using x, y, z⟩
        · exact .inr ⟨by simpa using x, z⟩
      · rcases HTE.out with hTe | hTe
        · obtain ⟨hb, hTU, rfl⟩ := hTe
          have e : U = T := hTU.symm
          subst e
          clear hTU
          have HSV := Lib.hid hb
          clear hb
          obtain ⟨rfl, rfl⟩ := h2
          have e14 : decide (G.length ≤ k) = false := by simp; omega
          obtain ⟨p0, p1, _, _⟩ := (Turn.blk m_W9_wh KA.out n_W7).facts2
          obtain ⟨r0, r1, _, _⟩ := (Turn.blk m_W9_wh KC.out n_W9).facts2
          go_wp2_with fail
          refine (refSame_is true HSV.out (by omega) (by omega) (Typ.below (Typ.turn HS.out.2 m_w4_wh)) (Typ.below (Typ.turn HV.out.2 m_w6_wh))).mono ?_
          rintro e wi ⟨rfl, bwi⟩
          have s_wi := tCa gg bwi
          have b_wi : Below w.heap.size w wi := b_wh.trans (s_wi.toBelow (fun k hk e => by omega) b_wh.size)
          have m_w3_wi := m_w3_wh.trans s_wi
          have m_w4_wi := m_w4_wh.trans s_wi
          have m_w5_wi := m_w5_wh.trans s_wi
          have m_w6_wi := m_w6_wh.trans s_wi
          have m_W7_wi := m_W7_wh.trans s_wi
          have m_W8_wi := m_W8_wh.trans s_wi
          have m_W9_wi := m_W9_wh.trans s_wi
          have m_wd_wi := m_wd_wh.trans s_wi
          have m_we_wi := m_we_wh.trans s_wi
          have m_wh_wi := m_wh_wh.trans s_wi
          clear s_wi b_wh m_w3_wh m_w4_wh m_w5_wh m_w6_wh m_W7_wh m_W8_wh m_W9_wh m_wd_wh m_we_wh m_wh_wh
          have z_wi : gg < wi.heap.size := by have := bwi.size; omega
          replace HTYH := Lib.hid (HTYH.out.boxed' bwi)
          clear bwi
          clear p0 p1 r0 r1
          obtain ⟨s0, s1, _, _⟩ := (Turn.blk m_W9_wi KB.out n_W8).facts2
          obtain ⟨t0, t1, _, _⟩ := (Turn.blk m_we_wi KS.out hsg).facts2
          go_wp2_with fail
          refine (refSame_is true (eqb_self U) (by omega) (by omega) (Typ.below (Typ.turn HTT.out m_we_wi)) (Typ.below (Typ.turn HU.out.2 m_w5_wi))).mono ?_
          rintro e wj ⟨rfl, bwj⟩
          have s_wj := tCa gg bwj
          have b_wj : Below w.heap.size w wj := b_wi.trans (s_wj.toBelow (fun k hk e => by omega) b_wi.size)
          have m_w3_wj := m_w3_wi.trans s_wj
          have m_w4_wj := m_w4_wi.trans s_wj
          have m_w5_wj := m_w5_wi.trans s_wj
          have m_w6_wj := m_w6_wi.trans s_wj
          have m_W7_wj := m_W7_wi.trans s_wj
          have m_W8_wj := m_W8_wi.trans s_wj
          have m_W9_wj := m_W9_wi.trans s_wj
          have m_wd_wj := m_wd_wi.trans s_wj
          have m_we_wj := m_we_wi.trans s_wj
          have m_wh_wj := m_wh_wi.trans s_wj
          clear s_wj b_wi m_w3_wi m_w4_wi m_w5_wi m_w6_wi m_W7_wi m_W8_wi m_W9_wi m_wd_wi m_we_wi m_wh_wi
          have z_wj : gg < wj.heap.size := by have := bwj.size; omega
          replace HTYH := Lib.hid (HTYH.out.boxed' bwj)
          clear bwj
          clear s0 s1 t0 t1
          have hU0' := HU0.out h1
          have hcs := (Ctx.turn HC3.out m_w3_wj).sl
          have h00 : G.length - 1 - k < G.length := by omega
          obtain ⟨a, rfl, ha, hat⟩ := hcs.get (G.length - 1 - k) h00
          rw [List.getElem?_eq_getElem h00] at hU0'
          have hU1 : G[G.length - 1 - k] = T2 := by simpa using hU0'
          rw [hU1] at hat
          obtain ⟨A8, c8, q0, q1, hx⟩ := at_ty hat
          simp only [show TyR.n = 2 from rfl] at q0 q1
          have hab := ha.2
          have KTQ := Turn.blk m_wh_wj KT.out ngt
          obtain ⟨k0, k1, _, _⟩ := KTQ.facts2
          have hkl := KTQ.lt
          have hT2n : T2.nodes ≤ 3 := by rw [← hU1]; exact (HGO.out _ (List.getElem_mem h00)).2
          have HX := Lib.hid (And.intro (IsTy.keep (S' := (· < wj.heap.size)) (fun b h => h.2) (fun _ _ => rfl) _ hx) HTYH.out)
          have HSK := Lib.hid fun (w' : World) (h : Below wj.heap.size wj w') => And.intro ((h.cell (p := a.add ((G.length - 1 - k) * 2)) (by rw [add_block]; omega)).trans q0) (And.intro ((h.cell (p := ⟨(a.add ((G.length - 1 - k) * 2)).block, (a.add ((G.length - 1 - k) * 2)).off + 1, none⟩) (by show (a.add ((G.length - 1 - k) * 2)).block < _; rw [add_block]; omega)).trans q1) (And.intro ((h.cell (p := ⟨wg.heap.size, 0, none⟩) hkl).trans k0) ((h.cell (p := ⟨wg.heap.size, 1, none⟩) hkl).trans k1)))
          clear hU0' hcs hU1 hat ha hx q0 q1 k0 k1 KTQ
          have hw1 : IntKind.i64.wrap ((G.length : Int) - 1) = (G.length : Int) - 1 := IntWalk.i64_in _ (by omega)
          have hw2 : IntKind.i64.wrap ((G.length : Int) - 1 - (k : Int)) = ((G.length - 1 - k : Nat) : Int) := by rw [IntWalk.i64_in _ (by omega)]; omega
          go_wp2_with fail
          go_region_held3 (fun w' => w'.cell? (a.add ((G.length - 1 - k) * 2)) = some (.int .i64 T2.kind) ∧ w'.cell? ⟨(a.add ((G.length - 1 - k) * 2)).block, (a.add ((G.length - 1 - k) * 2)).off + 1, none⟩ = some (.slice A8 T2.args.length c8) ∧ w'.cell? ⟨wg.heap.size, 0, none⟩ = some (.int .i64 T2.kind) ∧ w'.cell? ⟨wg.heap.size, 1, none⟩ = some (.slice A7 T2.args.length c7))
            (first | with_reducible exact HSK.out _ (Below.refl _ _).drew | with_reducible exact HSK.out _ bl')
            ((go_at_call 24
              (with_reducible refine (refSame_is true (eqb_self T2) (by omega) (by omega) (HX.out.2.boxed' ((Below.refl wj.heap.size wj).drew)) (HX.out.1.boxed' ((Below.refl wj.heap.size wj).drew))).mono ?_)
              rintro e wl ⟨rfl, bl⟩
              have bl' : Below wj.heap.size wj wl := ((Below.refl _ wj).drew).trans bl))
          go_wp2_with fail
          go_ret
          exact ⟨rfl, b_wj.trans (bl'.mono b_wj.size)⟩
        · obtain ⟨hb, hTU, rfl⟩ := hTe
          clear hTU
          have HSV := Lib.hid hb
          clear hb
          obtain ⟨rfl, rfl⟩ := h2
          have e14 : decide (G.length ≤ k) = false := by simp; omega
          obtain ⟨p0, p1, _, _⟩ := (Turn.blk m_W9_wh KA.out n_W7).facts2
          obtain ⟨r0, r1, _, _⟩ := (Turn.blk m_W9_wh KC.out n_W9).facts2
          go_wp2_with fail
          refine (refSame_is false HSV.out (by omega) (by omega) (Typ.below (Typ.turn HS.out.2 m_w4_wh)) (Typ.below (Typ.turn HV.out.2 m_w6_wh))).mono ?_
          rintro e wi ⟨rfl, bwi⟩
          have s_wi := tCa gg bwi
          have b_wi : Below w.heap.size w wi := b_wh.trans (s_wi.toBelow (fun k hk e => by omega) b_wh.size)
          have m_w3_wi := m_w3_wh.trans s_wi
          have m_w4_wi := m_w4_wh.trans s_wi
          have m_w5_wi := m_w5_wh.trans s_wi
          have m_w6_wi := m_w6_wh.trans s_wi
          have m_W7_wi := m_W7_wh.trans s_wi
          have m_W8_wi := m_W8_wh.trans s_wi
          have m_W9_wi := m_W9_wh.trans s_wi
          have m_wd_wi := m_wd_wh.trans s_wi
          have m_we_wi := m_we_wh.trans s_wi
          have m_wh_wi := m_wh_wh.trans s_wi
          clear s_wi b_wh m_w3_wh m_w4_wh m_w5_wh m_w6_wh m_W7_wh m_W8_wh m_W9_wh m_wd_wh m_we_wh m_wh_wh
          have z_wi : gg < wi.heap.size := by have := bwi.size; omega
          replace HTYH := Lib.hid (HTYH.out.boxed' bwi)
          clear bwi
          clear p0 p1 r0 r1
          have hU0' := HU0.out h1
          have hcs := (Ctx.turn HC3.out m_w3_wi).sl
          have h00 : G.length - 1 - k < G.length := by omega
          obtain ⟨a, rfl, ha, hat⟩ := hcs.get (G.length - 1 - k) h00
          rw [List.getElem?_eq_getElem h00] at hU0'
          have hU1 : G[G.length - 1 - k] = T2 := by simpa using hU0'
          rw [hU1] at hat
          obtain ⟨A8, c8, q0, q1, hx⟩ := at_ty hat
          simp only [show TyR.n = 2 from rfl] at q0 q1
          have hab := ha.2
          have KTQ := Turn.blk m_wh_wi KT.out ngt
          obtain ⟨k0, k1, _, _⟩ := KTQ.facts2
          have hkl := KTQ.lt
          have hT2n : T2.nodes ≤ 3 := by rw [← hU1]; exact (HGO.out _ (List.getElem_mem h00)).2
          have HX := Lib.hid (And.intro (IsTy.keep (S' := (· < wi.heap.size)) (fun b h => h.2) (fun _ _ => rfl) _ hx) HTYH.out)
          have HSK := Lib.hid fun (w' : World) (h : Below wi.heap.size wi w') => And.intro ((h.cell (p := a.add ((G.length - 1 - k) * 2)) (by rw [add_block]; omega)).trans q0) (And.intro ((h.cell (p := ⟨(a.add ((G.length - 1 - k) * 2)).block, (a.add ((G.length - 1 - k) * 2)).off + 1, none⟩) (by show (a.add ((G.length - 1 - k) * 2)).block < _; rw [add_block]; omega)).trans q1) (And.intro ((h.cell (p := ⟨wg.heap.size, 0, none⟩) hkl).trans k0) ((h.cell (p := ⟨wg.heap.size, 1, none⟩) hkl).trans k1)))
          clear hU0' hcs hU1 hat ha hx q0 q1 k0 k1 KTQ
          have hw1 : IntKind.i64.wrap ((G.length : Int) - 1) = (G.length : Int) - 1 := IntWalk.i64_in _ (by omega)
          have hw2 : IntKind.i64.wrap ((G.length : Int) - 1 - (k : Int)) = ((G.length - 1 - k : Nat) : Int) := by rw [IntWalk.i64_in _ (by omega)]; omega
          go_wp2_with fail
          go_region_held3 (fun w' => w'.cell? (a.add ((G.length - 1 - k) * 2)) = some (.int .i64 T2.kind) ∧ w'.cell? ⟨(a.add ((G.length - 1 - k) * 2)).block, (a.add ((G.length - 1 - k) * 2)).off + 1, none⟩ = some (.slice A8 T2.args.length c8) ∧ w'.cell? ⟨wg.heap.size, 0, none⟩ = some (.int .i64 T2.kind) ∧ w'.cell? ⟨wg.heap.size, 1, none⟩ = some (.slice A7 T2.args.length c7))
            (first | with_reducible exact HSK.out _ (Below.refl _ _).drew | with_reducible exact HSK.out _ bl')
            ((go_at_call 24
              (with_reducible refine (refSame_is true (eqb_self T2) (by omega) (by omega) (HX.out.2.boxed' ((Below.refl wi.heap.size wi).drew)) (HX.out.1.boxed' ((Below.refl wi.heap.size wi).drew))).mono ?_)
              rintro e wl ⟨rfl, bl⟩
              have bl' : Below wi.heap.size wi wl := ((Below.refl _ wi).drew).trans bl))
          go_wp2_with fail
          go_ret
          exact ⟨rfl, b_wi.trans (bl'.mono b_wi.size)⟩
      · rcases HTE.out with hTe | hTe
        · obtain ⟨hb, hTU, rfl⟩ := hTe
          have e : U = T := hTU.symm
          subst e
          clear hTU
          have HSV := Lib.hid hb
          clear hb
          subst h2
          have e14 : decide (G.length ≤ k) = true := by simp; omega
          obtain ⟨p0, p1, _, _⟩ := (Turn.blk m_W9_wh KA.out n_W7).facts2
          obtain ⟨r0, r1, _, _⟩ := (Turn.blk m_W9_wh KC.out n_W9).facts2
          go_wp2_with fail
          refine (refSame_is true HSV.out (by omega) (by omega) (Typ.below (Typ.turn HS.out.2 m_w4_wh)) (Typ.below (Typ.turn HV.out.2 m_w6_wh))).mono ?_
          rintro e wi ⟨rfl, bwi⟩
          have s_wi := tCa gg bwi
          have b_wi : Below w.heap.size w wi := b_wh.trans (s_wi.toBelow (fun k hk e => by omega) b_wh.size)
          have m_w3_wi := m_w3_wh.trans s_wi
          have m_w4_wi := m_w4_wh.trans s_wi
          have m_w5_wi := m_w5_wh.trans s_wi
          have m_w6_wi := m_w6_wh.trans s_wi
          have m_W7_wi := m_W7_wh.trans s_wi
          have m_W8_wi := m_W8_wh.trans s_wi
          have m_W9_wi := m_W9_wh.trans s_wi
          have m_wd_wi := m_wd_wh.trans s_wi
          have m_we_wi := m_we_wh.trans s_wi
          have m_wh_wi := m_wh_wh.trans s_wi
          clear s_wi b_wh m_w3_wh m_w4_wh m_w5_wh m_w6_wh m_W7_wh m_W8_wh m_W9_wh m_wd_wh m_we_wh m_wh_wh
          have z_wi : gg < wi.heap.size := by have := bwi.size; omega
          replace HTYH := Lib.hid (HTYH.out.boxed' bwi)
          clear bwi
          clear p0 p1 r0 r1
          obtain ⟨s0, s1, _, _⟩ := (Turn.blk m_W9_wi KB.out n_W8).facts2
          obtain ⟨t0, t1, _, _⟩ := (Turn.blk m_we_wi KS.out hsg).facts2
          go_wp2_with fail
          refine (refSame_is true (eqb_self U) (by omega) (by omega) (Typ.below (Typ.turn HTT.out m_we_wi)) (Typ.below (Typ.turn HU.out.2 m_w5_wi))).mono ?_
          rintro e wj ⟨rfl, bwj⟩
          have s_wj := tCa gg bwj
          have b_wj : Below w.heap.size w wj := b_wi.trans (s_wj.toBelow (fun k hk e => by omega) b_wi.size)
          have m_w3_wj := m_w3_wi.trans s_wj
          have m_w4_wj := m_w4_wi.trans s_wj
          have m_w5_wj := m_w5_wi.trans s_wj
          have m_w6_wj := m_w6_wi.trans s_wj
          have m_W7_wj := m_W7_wi.trans s_wj
          have m_W8_wj := m_W8_wi.trans s_wj
          have m_W9_wj := m_W9_wi.trans s_wj
          have m_wd_wj := m_wd_wi.trans s_wj
          have m_we_wj := m_we_wi.trans s_wj
          have m_wh_wj := m_wh_wi.trans s_wj
          clear s_wj b_wi m_w3_wi m_w4_wi m_w5_wi m_w6_wi m_W7_wi m_W8_wi m_W9_wi m_wd_wi m_we_wi m_wh_wi
          have z_wj : gg < wj.heap.size := by have := bwj.size; omega
          replace HTYH := Lib.hid (HTYH.out.boxed' bwj)
          clear bwj
          clear s0 s1 t0 t1
          go_wp2_with fail
          go_ret
          exact ⟨rfl, b_wj⟩
        · obtain ⟨hb, hTU, rfl⟩ := hTe
          clear hTU
          have HSV := Lib.hid hb
          clear hb
          subst h2
          have e14 : decide (G.length ≤ k) = true := by simp; omega
          obtain ⟨p0, p1, _, _⟩ := (Turn.blk m_W9_wh KA.out n_W7).facts2
          obtain ⟨r0, r1, _, _⟩ := (Turn.blk m_W9_wh KC.out n_W9).facts2
          go_wp2_with fail
          refine (refSame_is false HSV.out (by omega) (by omega) (Typ.below (Typ.turn HS.out.2 m_w4_wh)) (Typ.below (Typ.turn HV.out.2 m_w6_wh))).mono ?_
          rintro e wi ⟨rfl, bwi⟩
          have s_wi := tCa gg bwi
          have b_wi : Below w.heap.size w wi := b_wh.trans (s_wi.toBelow (fun k hk e => by omega) b_wh.size)
          have m_w3_wi := m_w3_wh.trans s_wi
          have m_w4_wi := m_w4_wh.trans s_wi
          have m_w5_wi := m_w5_wh.trans s_wi
          have m_w6_wi := m_w6_wh.trans s_wi
          have m_W7_wi := m_W7_wh.trans s_wi
          have m_W8_wi := m_W8_wh.trans s_wi
          have m_W9_wi := m_W9_wh.trans s_wi
          have m_wd_wi := m_wd_wh.trans s_wi
          have m_we_wi := m_we_wh.trans s_wi
          have m_wh_wi := m_wh_wh.trans s_wi
          clear s_wi b_wh m_w3_wh m_w4_wh m_w5_wh m_w6_wh m_W7_wh m_W8_wh m_W9_wh m_wd_wh m_we_wh m_wh_wh
          have z_wi : gg < wi.heap.size := by have := bwi.size; omega
          replace HTYH := Lib.hid (HTYH.out.boxed' bwi)
          clear bwi
          clear p0 p1 r0 r1
          go_wp2_with fail
          go_ret
          exact ⟨rfl, b_wi⟩
end Go.Proofs.YtieafbmabnohhaaDoor
