/- The walk of the law on the sizes and the free variables of what Put gives. -/
import Derived.Test.YtnodebcbnfkioaaDoorPackSizes
import Derived.IntWalk
namespace Go.Proofs.YtnodebcbnfkioaaDoor
open Go.RowKit Go.Maps

set_option maxRecDepth 100000 in
set_option maxHeartbeats 16000000 in
theorem putSizesLaw_small (A : Option Addr) (len cap : Nat) (w : World) (htab : Tab w) (hlen : len ≤ 500) (hA : ∀ i, i < len → ∃ a x, A = some a ∧ a.block < w.heap.size ∧ w.cell? (a.add i) = some (.int .i64 x)) :
    Calls Tryd.prog 3 #[.slice A len cap] w fun e w' => e = .returned (.bool true) ∧ Below w.heap.size w w' := by
  have hA' := Lib.hid hA
  have HTab := Lib.hid htab
  clear hA htab
  have e500 : decide ((len : Int) ≤ 500) = true := by simp; omega
  go_enter Tryd.func3, Tryd.ntmps3
  go_wp2_with fail
  refine (saneS_any w HTab.out).mono ?_
  rintro e w1 ⟨rfl, hb1⟩
  go_wp2_with fail
  refine (few_any A len cap w1 (by simp only [maxLen]; omega)).mono ?_
  rintro e w1' ⟨rfl, rfl⟩
  rw [e500]
  go_wp2_with fail
  have hA1 : ∀ i, i < len → ∃ a x, A = some a ∧ a.block < w1.heap.size ∧ w1.cell? (a.add i) = some (.int .i64 x) := fun i hi => by
    obtain ⟨a, x, h1, h2, h3⟩ := hA'.out i hi
    exact ⟨a, x, h1, Nat.lt_of_lt_of_le h2 hb1.size, (hb1.cell (by rw [add_block]; exact h2)).trans h3⟩
  refine (new_any A len cap w1 hlen hA1).mono ?_
  rintro e w2 ⟨rfl, hw2⟩
  have hd2 := new_deck A len cap w1 hlen hA1
  rw [hw2] at hd2
  have b_w2 : Below w.heap.size w w2 := by rw [← hw2]; exact hb1.alloc hb1.size _
  have hgw : w.heap.size ≤ w1.heap.size := hb1.size
  clear hw2 hA1 hb1
  generalize w1.heap.size = gg at hd2 hgw ⊢
  have z_w2 := hd2.lt
  have HD2 := Lib.hid hd2
  clear hd2
  go_wp2_with fail
  refine (mkContext_any gg w2 HD2.out).mono ?_
  rintro e w3 ⟨G, v, rfl, hG3, hGok, hGs, hGf, hGnil, hd3, hg3⟩
  obtain ⟨A3, c3, rfl⟩ := hGs.form
  have HD3 := Lib.hid hd3
  have HC3 := Lib.hid (show Ctx gg w3 G (.slice A3 G.length c3) from ⟨hGs.keep (fun b hb => ⟨by have := hb.1; omega, hb.2⟩) (fun _ _ => rfl), hGf, hGok⟩)
  have HGN := Lib.hid hGnil
  have HGO := Lib.hid hGok
  have s_w3 := turn_of hg3
  have b_w3 : Below w.heap.size w w3 := b_w2.trans (s_w3.toBelow (fun k hk e => by omega) b_w2.size)
  clear s_w3 b_w2 
  have z_w3 : gg < w3.heap.size := HD3.out.lt
  have m_w3_w3 := tRf gg w3
  clear hg3 hd3 hGs hGf hGnil hGok
  go_wp2_with fail
  refine (type_any 1 1 gg w3 (by omega) (by omega) (by omega) HD3.out).mono ?_
  rintro e w4 ⟨S, x4, rfl, okS, szS, tyS, hd4, hg4⟩
  obtain ⟨A4, c4, rfl⟩ := tyS.form
  have nS := type_three szS
  have HS := Lib.hid (And.intro okS (Typ.of tyS z_w3))
  have D_w4 := Lib.hid hd4
  have s_w4 := turn_of hg4
  have b_w4 : Below w.heap.size w w4 := b_w3.trans (s_w4.toBelow (fun k hk e => by omega) b_w3.size)
  have m_w3_w4 := m_w3_w3.trans s_w4
  clear s_w4 b_w3 m_w3_w3
  have z_w4 : gg < w4.heap.size := D_w4.out.lt
  have m_w4_w4 := tRf gg w4
  clear tyS hd4 hg4 okS szS
  go_upto_region 8 with fail
  have d_W5 := (Deck.box D_w4.out (Obj.cells #[.int .i64 S.kind, .slice A4 S.args.length c4] 30))
  obtain ⟨a_W5, y_W5, k_W5⟩ := new_blk (Below.refl w4.heap.size w4) (Nat.le_refl _) #[.int .i64 S.kind, .slice A4 S.args.length c4] 30
  generalize w4.alloc (Obj.cells #[.int .i64 S.kind, .slice A4 S.args.length c4] 30) = W5 at a_W5 y_W5 k_W5 d_W5 ⊢
  have s_W5 := (tCa gg a_W5)
  have b_W5 : Below w.heap.size w W5 := b_w4.trans (s_W5.toBelow (fun k hk e => by omega) b_w4.size)
  have m_w3_W5 := m_w3_w4.trans s_W5
  have m_w4_W5 := m_w4_w4.trans s_W5
  clear s_W5 b_w4 m_w3_w4 m_w4_w4
  have z_W5 : gg < W5.heap.size := by have := z_w4; omega
  have m_W5_W5 := tRf gg W5
  have K_W5 := Lib.hid k_W5
  have D_W5 := Lib.hid d_W5
  have n_W5 : w4.heap.size ≠ gg := by have := z_w4; omega
  clear a_W5 k_W5 d_W5 y_W5
  have KA := Lib.hid (Turn.blk m_W5_W5 K_W5.out n_W5)
  have nfA : ¬ Free gg (W5.heap.size - 1) w4.heap.size := by have := KA.out.lt; have := n_W5; unfold Free; omega
  have HC5 := Lib.hid (Ctx.turn HC3.out m_w3_W5)
  have HS5 := Lib.hid (Typ.turn HS.out.2 m_w4_W5)
  have HGS := Lib.hid (show ∀ X ∈ G ++ [S], X.ok = true ∧ X.nodes ≤ 3 from fun X hX => by rcases List.mem_append.1 hX with h | h; exact HGO.out X h; rw [List.mem_singleton.1 h]; exact ⟨HS.out.1, nS⟩)
  go_cut [6] from 37 to 45 (fun x wx => StepU gg G S W5 x wx)
  case first =>
    have QD := Lib.hid (Turn.free (n := W5.heap.size - 1) (tDr gg W5))
    have QDBN := Lib.hid (Turn.free (n := W5.heap.size - 1) (tAl gg W5 (Obj.cells #[.int .i64 S.kind, .slice A4 S.args.length c4] 30)))
    have QDB := Lib.hid (Turn.free (n := W5.heap.size - 1) ((tAl gg W5 (Obj.cells #[.int .i64 S.kind, .slice A4 S.args.length c4] 30)).trans (tDr gg _)))
    have QDLN := Lib.hid (Turn.free (n := W5.heap.size - 1) (tAl gg W5 (Obj.cells #[.int .i64 0, .int .i64 0, .int .i64 0, .slice none 0 0, .slice none 0 0] 34)))
    have QDL := Lib.hid (Turn.free (n := W5.heap.size - 1) ((tAl gg W5 (Obj.cells #[.int .i64 0, .int .i64 0, .int .i64 0, .slice none 0 0, .slice none 0 0] 34)).trans (tDr gg _)))
    have QDBLN := Lib.hid (Turn.free (n := W5.heap.size - 1) ((tAl gg W5 (Obj.cells #[.int .i64 S.kind, .slice A4 S.args.length c4] 30)).trans (tAl gg _ (Obj.cells #[.int .i64 0, .int .i64 0, .int .i64 0, .slice none 0 0, .slice none 0 0] 34))))
    have QDBL := Lib.hid (Turn.free (n := W5.heap.size - 1) (((tAl gg W5 (Obj.cells #[.int .i64 S.kind, .slice A4 S.args.length c4] 30)).trans (tAl gg _ (Obj.cells #[.int .i64 0, .int .i64 0, .int .i64 0, .slice none 0 0, .slice none 0 0] 34))).trans (tDr gg _)))
    have QDLBN := Lib.hid (Turn.free (n := W5.heap.size - 1) ((tAl gg W5 (Obj.cells #[.int .i64 0, .int .i64 0, .int .i64 0, .slice none 0 0, .slice none 0 0] 34)).trans (tAl gg _ (Obj.cells #[.int .i64 S.kind, .slice A4 S.args.length c4] 30))))
    have QDLB := Lib.hid (Turn.free (n := W5.heap.size - 1) (((tAl gg W5 (Obj.cells #[.int .i64 0, .int .i64 0, .int .i64 0, .slice none 0 0, .slice none 0 0] 34)).trans (tAl gg _ (Obj.cells #[.int .i64 S.kind, .slice A4 S.args.length c4] 30))).trans (tDr gg _)))
    have HSK := Lib.hid fun (w' : World) (h : Turn (Free gg (W5.heap.size - 1)) W5 w') => And.intro (h.blk KA.out nfA).facts2.1 (h.blk KA.out nfA).facts2.2.1
    obtain ⟨q0, q1⟩ := HSK.out W5 (Turn.refl _ _)
    go_region_held3 (fun w' => w'.cell? ⟨w4.heap.size, 0, none⟩ = some (.int .i64 S.kind) ∧ w'.cell? ⟨w4.heap.size, 1, none⟩ = some (.slice A4 S.args.length c4))
      (first | with_reducible exact HSK.out _ QD.out | with_reducible exact HSK.out _ QDBN.out | with_reducible exact HSK.out _ QDB.out | with_reducible exact HSK.out _ QDLN.out | with_reducible exact HSK.out _ QDL.out | with_reducible exact HSK.out _ QDBLN.out | with_reducible exact HSK.out _ QDBL.out | with_reducible exact HSK.out _ QDLBN.out | with_reducible exact HSK.out _ QDLB.out | with_reducible exact HSK.out _ Qta.out | with_reducible exact HSK.out _ QtaB.out | with_reducible exact HSK.out _ QtaL.out | with_reducible exact HSK.out _ QtaBL.out | with_reducible exact HSK.out _ QtaLB.out | with_reducible exact HSK.out _ Qp1a.out | with_reducible exact HSK.out _ Qp1aB.out | with_reducible exact HSK.out _ Qp1aL.out | with_reducible exact HSK.out _ Qp1aBL.out | with_reducible exact HSK.out _ Qp1aLB.out | with_reducible exact HSK.out _ Qp2a.out | with_reducible exact HSK.out _ Qp2aL.out | with_reducible exact HSK.out _ Qp3a.out | with_reducible exact HSK.out _ Qp3aL.out | with_reducible exact HSK.out _ QFp3a.out | with_reducible exact HSK.out _ QSp3a.out | with_reducible exact HSK.out _ Qp1c.out | with_reducible exact HSK.out _ Qp1cB.out | with_reducible exact HSK.out _ Qp1cL.out | with_reducible exact HSK.out _ Qp1cBL.out | with_reducible exact HSK.out _ Qp1cLB.out | with_reducible exact HSK.out _ Qp2c.out | with_reducible exact HSK.out _ Qp2cL.out | with_reducible exact HSK.out _ Qtc.out | with_reducible exact HSK.out _ QtcL.out | with_reducible exact HSK.out _ Qp3c.out | with_reducible exact HSK.out _ Qp3cL.out | with_reducible exact HSK.out _ QFp3c.out | with_reducible exact HSK.out _ QSp3c.out | with_reducible exact HSK.out _ Qp1c.out | with_reducible exact HSK.out _ Qp1cB.out | with_reducible exact HSK.out _ Qp1cL.out | with_reducible exact HSK.out _ Qp1cBL.out | with_reducible exact HSK.out _ Qp1cLB.out | with_reducible exact HSK.out _ Qtb.out | with_reducible exact HSK.out _ QtbB.out | with_reducible exact HSK.out _ QtbL.out | with_reducible exact HSK.out _ QtbBL.out | with_reducible exact HSK.out _ QtbLB.out | with_reducible exact HSK.out _ Qp2b.out | with_reducible exact HSK.out _ Qp2bL.out | with_reducible exact HSK.out _ Qp3b.out | with_reducible exact HSK.out _ Qp3bL.out | with_reducible exact HSK.out _ QFp3b.out | with_reducible exact HSK.out _ QSp3b.out)
      (first
        | (go_at_call 13
           have Pp3b := term_any gg (4 * 3 + Utb'.nodes + 1) (G ++ [S]) Utb' 3 vp2b _ (wp2b.alloc (Obj.cells #[.int .i64 0, .int .i64 0, .int .i64 0, .slice none 0 0, .slice none 0 0] 34)) (by simp) (by have := HUtb.out.2; omega) (by have := HUtb.out.2; omega) (by have := HUtb.out.2; simp; omega) HUtb.out.1 HUtb.out.2 (Ctx.turn Cp2b.out (tAl gg _ (Obj.cells #[.int .i64 0, .int .i64 0, .int .i64 0, .slice none 0 0, .slice none 0 0] 34))) (Typ.turn YUp2b.out (tAl gg _ (Obj.cells #[.int .i64 0, .int .i64 0, .int .i64 0, .slice none 0 0, .slice none 0 0] 34))) (Deck.box Kp2b.out (Obj.cells #[.int .i64 0, .int .i64 0, .int .i64 0, .slice none 0 0, .slice none 0 0] 34))
           (with_reducible refine Pp3b.mono ?_)
           rintro e wp3b ⟨yp3b, vp3b, rfl, mp3b, tp3b, kp3b, up3b⟩
           clear Pp3b
           have Tp3b := Lib.hid ((Tp2b.out.trans (tAl gg _ (Obj.cells #[.int .i64 0, .int .i64 0, .int .i64 0, .slice none 0 0, .slice none 0 0] 34))).trans (up3b))
           have Up3b := Lib.hid ((tAl gg _ (Obj.cells #[.int .i64 0, .int .i64 0, .int .i64 0, .slice none 0 0, .slice none 0 0] 34)).trans (up3b))
           obtain ⟨Bp3b, ep3b, Ap3b, cp3b, rfl, _⟩ := IsTm.form tp3b
           have Kp3b := Lib.hid kp3b
           clear kp3b
           have KSLp3b := Lib.hid (And.intro (Turn.blk ((up3b)) (Blk.new wp2b 34 #[.int .i64 0, .int .i64 0, .int .i64 0, .slice none 0 0, .slice none 0 0]) (by have := Tp2b.out.size; omega)) (show W5.heap.size ≤ wp2b.heap.size by have := Tp2b.out.size; omega))
           have Qp3b := Lib.hid (Turn.free (n := W5.heap.size - 1) Tp3b.out)
           have Qp3bL := Lib.hid (Turn.free (n := W5.heap.size - 1) (Tp3b.out.trans (tAl gg _ (Obj.cells #[.int .i64 0, .int .i64 0, .int .i64 0, .slice none 0 0, .slice none 0 0] 34))))
           have HYP := Lib.hid (show (fun y => Made (G ++ [S]) Utb' (bdN ((3 : Int)).toNat Utb') (bdO ((3 : Int)).toNat Utb') y) yp3b from mp3b)
           have QFp3b := Lib.hid (Turn.free (n := W5.heap.size - 1) (Tp3b.out.trans (tAl gg _ (Obj.cells #[.int .i64 yp3b.kind, .int .i64 yp3b.index, .int .i64 yp3b.type.kind, .slice Bp3b yp3b.type.args.length ep3b, .slice Ap3b yp3b.args.length cp3b] 34))))
           have ENDN := Lib.hid (show StepU gg G S W5 _ _ from ⟨Utb', HUtb.out.1, HUtb.out.2, step_new (W := W5) HYP.out ((Tp2b.out.trans (tAl gg _ (Obj.cells #[.int .i64 0, .int .i64 0, .int .i64 0, .slice none 0 0, .slice none 0 0] 34)))).size Tp3b.out Kp3b.out tp3b⟩)
           (have END := Lib.hid (show StepU gg G S W5 _ _ from ⟨Utb', HUtb.out.1, HUtb.out.2, step_set (W := W5) HYP.out KSLp3b.out.1 z_W5 KSLp3b.out.2 (Nat.le_refl _) (by simp) Tp3b.out Kp3b.out tp3b⟩))
           (have QSp3b := Lib.hid (Turn.trans Qp3b.out (free_set5b KSLp3b.out z_W5 (.int .i64 yp3b.kind) (.int .i64 yp3b.index) (.int .i64 yp3b.type.kind) (.slice Bp3b yp3b.type.args.length ep3b) (.slice Ap3b yp3b.args.length cp3b))))
           (obtain ⟨_, _, _, _, _, f0, f1, f2, f3, f4⟩ := KSLp3b.out.1.facts5))
        | (go_at_call 13
           have Pp3b := term_any gg (4 * 3 + Utb'.nodes + 1) (G ++ [S]) Utb' 3 vp2b _ wp2b (by simp) (by have := HUtb.out.2; omega) (by have := HUtb.out.2; omega) (by have := HUtb.out.2; simp; omega) HUtb.out.1 HUtb.out.2 Cp2b.out YUp2b.out Kp2b.out
           (with_reducible refine Pp3b.mono ?_)
           rintro e wp3b ⟨yp3b, vp3b, rfl, mp3b, tp3b, kp3b, up3b⟩
           clear Pp3b
           have Tp3b := Lib.hid (Tp2b.out.trans (up3b))
           have Up3b := Lib.hid (up3b)
           obtain ⟨Bp3b, ep3b, Ap3b, cp3b, rfl, _⟩ := IsTm.form tp3b
           have Kp3b := Lib.hid kp3b
           clear kp3b
           try (have KSLp3b := Lib.hid (And.intro (Turn.blk Up3b.out KSLp2b.out.1 (by have := KSLp2b.out.2; omega)) KSLp2b.out.2))
           have Qp3b := Lib.hid (Turn.free (n := W5.heap.size - 1) Tp3b.out)
           have Qp3bL := Lib.hid (Turn.free (n := W5.heap.size - 1) (Tp3b.out.trans (tAl gg _ (Obj.cells #[.int .i64 0, .int .i64 0, .int .i64 0, .slice none 0 0, .slice none 0 0] 34))))
           have HYP := Lib.hid (show (fun y => Made (G ++ [S]) Utb' (bdN ((3 : Int)).toNat Utb') (bdO ((3 : Int)).toNat Utb') y) yp3b from mp3b)
           have QFp3b := Lib.hid (Turn.free (n := W5.heap.size - 1) (Tp3b.out.trans (tAl gg _ (Obj.cells #[.int .i64 yp3b.kind, .int .i64 yp3b.index, .int .i64 yp3b.type.kind, .slice Bp3b yp3b.type.args.length ep3b, .slice Ap3b yp3b.args.length cp3b] 34))))
           have ENDN := Lib.hid (show StepU gg G S W5 _ _ from ⟨Utb', HUtb.out.1, HUtb.out.2, step_new (W := W5) HYP.out (Tp2b.out).size Tp3b.out Kp3b.out tp3b⟩)
           try (have END := Lib.hid (show StepU gg G S W5 _ _ from ⟨Utb', HUtb.out.1, HUtb.out.2, step_set (W := W5) HYP.out KSLp3b.out.1 z_W5 KSLp3b.out.2 (Nat.le_refl _) (by have := KSLp2b.out.1.lt; omega) Tp3b.out Kp3b.out tp3b⟩))
           try (have QSp3b := Lib.hid (Turn.trans Qp3b.out (free_set5b KSLp3b.out z_W5 (.int .i64 yp3b.kind) (.int .i64 yp3b.index) (.int .i64 yp3b.type.kind) (.slice Bp3b yp3b.type.args.length ep3b) (.slice Ap3b yp3b.args.length cp3b))))
           try (obtain ⟨_, _, _, _, _, f0, f1, f2, f3, f4⟩ := KSLp3b.out.1.facts5))
        | (refine step_append_ty (w := (wtb.alloc (Obj.cells #[.int .i64 0, .int .i64 0, .int .i64 0, .slice none 0 0, .slice none 0 0] 34))) (by rfl) (.tmp 39) (.tmp 41) (by rfl) (v := vp1c) (u := _) (l := G) (m := [S]) (S := Good (· = gg) W5) (base := W5.heap.size) (by rfl) (by rfl) (Otb.out.below (below_box wtb (Obj.cells #[.int .i64 0, .int .i64 0, .int .i64 0, .slice none 0 0, .slice none 0 0] 34))) (src_one (Turn.blk (tAl gg _ (Obj.cells #[.int .i64 0, .int .i64 0, .int .i64 0, .slice none 0 0, .slice none 0 0] 34)) KSBtb.out.1 (by have := KSBtb.out.2; omega)) HS5.out (Ttb.out.trans (tAl gg _ (Obj.cells #[.int .i64 0, .int .i64 0, .int .i64 0, .slice none 0 0, .slice none 0 0] 34))) (fun b e => (Op1c.out.lt b e).1)) (by simp; omega) ((Ttb.out.trans (tAl gg _ (Obj.cells #[.int .i64 0, .int .i64 0, .int .i64 0, .slice none 0 0, .slice none 0 0] 34)))).size ?_
           intro vp2b wp2b op2b rp2b hp2b bp2b
           have Tp2b := Lib.hid (Turn.far (Ttb.out.trans (tAl gg _ (Obj.cells #[.int .i64 0, .int .i64 0, .int .i64 0, .slice none 0 0, .slice none 0 0] 34))) bp2b)
           have Op2b := Lib.hid (show TyR.Own (Good (· = gg) W5) W5.heap.size vp2b (G ++ [S]) wp2b from op2b)
           have Kp2b := Lib.hid (((Deck.box Ktb.out (Obj.cells #[.int .i64 0, .int .i64 0, .int .i64 0, .slice none 0 0, .slice none 0 0] 34))).grown rp2b (fun k e => by have := (Otb.out.lt k e).1; omega))
           have KSLp2b := Lib.hid (And.intro (Blk.grownNe (Blk.new wtb 34 #[.int .i64 0, .int .i64 0, .int .i64 0, .slice none 0 0, .slice none 0 0]) rp2b (own_far Otb.out (by omega))) (show W5.heap.size ≤ wtb.heap.size by have := Ttb.out.size; omega))
           have Cp2b := Lib.hid (own_ctx op2b z_W5 HGS.out)
           have YUp2b := Lib.hid (typ_far Itb.out Ztb.out (below_box wtb (Obj.cells #[.int .i64 0, .int .i64 0, .int .i64 0, .slice none 0 0, .slice none 0 0] 34)) rp2b (fun k e => by have := (Op1c.out.lt k e).2; have := Stb.out; omega))
           have Qp2b := Lib.hid (Turn.free (n := W5.heap.size - 1) Tp2b.out)
           have Qp2bL := Lib.hid (Turn.free (n := W5.heap.size - 1) (Tp2b.out.trans (tAl gg _ (Obj.cells #[.int .i64 0, .int .i64 0, .int .i64 0, .slice none 0 0, .slice none 0 0] 34))))
           clear op2b rp2b hp2b bp2b)
        | (refine step_append_ty (w := wtb) (by rfl) (.tmp 39) (.tmp 41) (by rfl) (v := vp1c) (u := _) (l := G) (m := [S]) (S := Good (· = gg) W5) (base := W5.heap.size) (by rfl) (by rfl) Otb.out (src_one KSBtb.out.1 HS5.out Ttb.out (fun b e => (Op1c.out.lt b e).1)) (by simp; omega) (Ttb.out).size ?_
           intro vp2b wp2b op2b rp2b hp2b bp2b
           have Tp2b := Lib.hid (Turn.far Ttb.out bp2b)
           have Op2b := Lib.hid (show TyR.Own (Good (· = gg) W5) W5.heap.size vp2b (G ++ [S]) wp2b from op2b)
           have Kp2b := Lib.hid ((Ktb.out).grown rp2b (fun k e => by have := (Otb.out.lt k e).1; omega))
           try (have KSLp2b := Lib.hid (And.intro (Blk.grownNe (Turn.blk (tRf gg wtb) KSLtb.out.1 (by have := KSLtb.out.2; omega)) rp2b NELtb.out) KSLtb.out.2))
           have Cp2b := Lib.hid (own_ctx op2b z_W5 HGS.out)
           have YUp2b := Lib.hid (typ_far Itb.out Ztb.out (Below.refl wtb.heap.size wtb) rp2b (fun k e => by have := (Op1c.out.lt k e).2; have := Stb.out; omega))
           have Qp2b := Lib.hid (Turn.free (n := W5.heap.size - 1) Tp2b.out)
           have Qp2bL := Lib.hid (Turn.free (n := W5.heap.size - 1) (Tp2b.out.trans (tAl gg _ (Obj.cells #[.int .i64 0, .int .i64 0, .int .i64 0, .slice none 0 0, .slice none 0 0] 34))))
           clear op2b rp2b hp2b bp2b)
        | (refine step_append_ty (w := ((wtb.alloc (Obj.cells #[.int .i64 0, .int .i64 0, .int .i64 0, .slice none 0 0, .slice none 0 0] 34)).alloc (Obj.cells #[.int .i64 S.kind, .slice A4 S.args.length c4] 30))) (by rfl) (.tmp 39) (.tmp 41) (by rfl) (v := vp1c) (u := .slice (some ⟨wtb.heap.size + 1, 0, none⟩) 1 1) (l := G) (m := [S]) (S := Good (· = gg) W5) (base := W5.heap.size) (by rfl) (by rfl) ((Otb.out.below (below_box wtb (Obj.cells #[.int .i64 0, .int .i64 0, .int .i64 0, .slice none 0 0, .slice none 0 0] 34))).below (below_box _ (Obj.cells #[.int .i64 S.kind, .slice A4 S.args.length c4] 30))) (src_one (blk_new1 wtb (Obj.cells #[.int .i64 0, .int .i64 0, .int .i64 0, .slice none 0 0, .slice none 0 0] 34) #[.int .i64 S.kind, .slice A4 S.args.length c4] 30) HS5.out ((Ttb.out.trans (tAl gg _ (Obj.cells #[.int .i64 0, .int .i64 0, .int .i64 0, .slice none 0 0, .slice none 0 0] 34))).trans (tAl gg _ (Obj.cells #[.int .i64 S.kind, .slice A4 S.args.length c4] 30))) (fun b e => (Op1c.out.lt b e).1)) (by simp; omega) (((Ttb.out.trans (tAl gg _ (Obj.cells #[.int .i64 0, .int .i64 0, .int .i64 0, .slice none 0 0, .slice none 0 0] 34))).trans (tAl gg _ (Obj.cells #[.int .i64 S.kind, .slice A4 S.args.length c4] 30)))).size ?_
           intro vp2b wp2b op2b rp2b hp2b bp2b
           have Tp2b := Lib.hid (Turn.far ((Ttb.out.trans (tAl gg _ (Obj.cells #[.int .i64 0, .int .i64 0, .int .i64 0, .slice none 0 0, .slice none 0 0] 34))).trans (tAl gg _ (Obj.cells #[.int .i64 S.kind, .slice A4 S.args.length c4] 30))) bp2b)
           have Op2b := Lib.hid (show TyR.Own (Good (· = gg) W5) W5.heap.size vp2b (G ++ [S]) wp2b from op2b)
           have Kp2b := Lib.hid (((Deck.box (Deck.box Ktb.out (Obj.cells #[.int .i64 0, .int .i64 0, .int .i64 0, .slice none 0 0, .slice none 0 0] 34)) (Obj.cells #[.int .i64 S.kind, .slice A4 S.args.length c4] 30))).grown rp2b (fun k e => by have := (Otb.out.lt k e).1; omega))
           have KSLp2b := Lib.hid (And.intro (Blk.grownNe (Turn.blk (tAl gg _ (Obj.cells #[.int .i64 S.kind, .slice A4 S.args.length c4] 30)) (Blk.new wtb 34 #[.int .i64 0, .int .i64 0, .int .i64 0, .slice none 0 0, .slice none 0 0]) (by have := Ttb.out.size; omega)) rp2b (own_far Otb.out (by omega))) (show W5.heap.size ≤ wtb.heap.size by have := Ttb.out.size; omega))
           have Cp2b := Lib.hid (own_ctx op2b z_W5 HGS.out)
           have YUp2b := Lib.hid (typ_far Itb.out Ztb.out ((below_box wtb (Obj.cells #[.int .i64 0, .int .i64 0, .int .i64 0, .slice none 0 0, .slice none 0 0] 34)).trans ((below_box _ (Obj.cells #[.int .i64 S.kind, .slice A4 S.args.length c4] 30)).mono (by simp))) rp2b (fun k e => by have := (Op1c.out.lt k e).2; have := Stb.out; omega))
           have Qp2b := Lib.hid (Turn.free (n := W5.heap.size - 1) Tp2b.out)
           have Qp2bL := Lib.hid (Turn.free (n := W5.heap.size - 1) (Tp2b.out.trans (tAl gg _ (Obj.cells #[.int .i64 0, .int .i64 0, .int .i64 0, .slice none 0 0, .slice none 0 0] 34))))
           clear op2b rp2b hp2b bp2b)
        | (refine step_append_ty (w := ((wtb.alloc (Obj.cells #[.int .i64 S.kind, .slice A4 S.args.length c4] 30)).alloc (Obj.cells #[.int .i64 0, .int .i64 0, .int .i64 0, .slice none 0 0, .slice none 0 0] 34))) (by rfl) (.tmp 39) (.tmp 41) (by rfl) (v := vp1c) (u := .slice (some ⟨wtb.heap.size, 0, none⟩) 1 1) (l := G) (m := [S]) (S := Good (· = gg) W5) (base := W5.heap.size) (by rfl) (by rfl) ((Otb.out.below (below_box wtb (Obj.cells #[.int .i64 S.kind, .slice A4 S.args.length c4] 30))).below (below_box _ (Obj.cells #[.int .i64 0, .int .i64 0, .int .i64 0, .slice none 0 0, .slice none 0 0] 34))) (src_one (Turn.blk (tAl gg _ (Obj.cells #[.int .i64 0, .int .i64 0, .int .i64 0, .slice none 0 0, .slice none 0 0] 34)) (Blk.new wtb 30 #[.int .i64 S.kind, .slice A4 S.args.length c4]) (by have := Ttb.out.size; omega)) HS5.out ((Ttb.out.trans (tAl gg _ (Obj.cells #[.int .i64 S.kind, .slice A4 S.args.length c4] 30))).trans (tAl gg _ (Obj.cells #[.int .i64 0, .int .i64 0, .int .i64 0, .slice none 0 0, .slice none 0 0] 34))) (fun b e => (Op1c.out.lt b e).1)) (by simp; omega) (((Ttb.out.trans (tAl gg _ (Obj.cells #[.int .i64 S.kind, .slice A4 S.args.length c4] 30))).trans (tAl gg _ (Obj.cells #[.int .i64 0, .int .i64 0, .int .i64 0, .slice none 0 0, .slice none 0 0] 34)))).size ?_
           intro vp2b wp2b op2b rp2b hp2b bp2b
           have Tp2b := Lib.hid (Turn.far ((Ttb.out.trans (tAl gg _ (Obj.cells #[.int .i64 S.kind, .slice A4 S.args.length c4] 30))).trans (tAl gg _ (Obj.cells #[.int .i64 0, .int .i64 0, .int .i64 0, .slice none 0 0, .slice none 0 0] 34))) bp2b)
           have Op2b := Lib.hid (show TyR.Own (Good (· = gg) W5) W5.heap.size vp2b (G ++ [S]) wp2b from op2b)
           have Kp2b := Lib.hid (((Deck.box (Deck.box Ktb.out (Obj.cells #[.int .i64 S.kind, .slice A4 S.args.length c4] 30)) (Obj.cells #[.int .i64 0, .int .i64 0, .int .i64 0, .slice none 0 0, .slice none 0 0] 34))).grown rp2b (fun k e => by have := (Otb.out.lt k e).1; omega))
           have KSLp2b := Lib.hid (And.intro (Blk.grownNe (blk_new1 wtb (Obj.cells #[.int .i64 S.kind, .slice A4 S.args.length c4] 30) #[.int .i64 0, .int .i64 0, .int .i64 0, .slice none 0 0, .slice none 0 0] 34) rp2b (own_far Otb.out (by omega))) (show W5.heap.size ≤ wtb.heap.size + 1 by have := Ttb.out.size; omega))
           have Cp2b := Lib.hid (own_ctx op2b z_W5 HGS.out)
           have YUp2b := Lib.hid (typ_far Itb.out Ztb.out ((below_box wtb (Obj.cells #[.int .i64 S.kind, .slice A4 S.args.length c4] 30)).trans ((below_box _ (Obj.cells #[.int .i64 0, .int .i64 0, .int .i64 0, .slice none 0 0, .slice none 0 0] 34)).mono (by simp))) rp2b (fun k e => by have := (Op1c.out.lt k e).2; have := Stb.out; omega))
           have Qp2b := Lib.hid (Turn.free (n := W5.heap.size - 1) Tp2b.out)
           have Qp2bL := Lib.hid (Turn.free (n := W5.heap.size - 1) (Tp2b.out.trans (tAl gg _ (Obj.cells #[.int .i64 0, .int .i64 0, .int .i64 0, .slice none 0 0, .slice none 0 0] 34))))
           clear op2b rp2b hp2b bp2b)
        | (refine step_append_ty (w := (wtb.alloc (Obj.cells #[.int .i64 S.kind, .slice A4 S.args.length c4] 30))) (by rfl) (.tmp 39) (.tmp 41) (by rfl) (v := vp1c) (u := .slice (some ⟨wtb.heap.size, 0, none⟩) 1 1) (l := G) (m := [S]) (S := Good (· = gg) W5) (base := W5.heap.size) (by rfl) (by rfl) (Otb.out.below (below_box wtb (Obj.cells #[.int .i64 S.kind, .slice A4 S.args.length c4] 30))) (src_one (Blk.new wtb 30 #[.int .i64 S.kind, .slice A4 S.args.length c4]) HS5.out (Ttb.out.trans (tAl gg _ (Obj.cells #[.int .i64 S.kind, .slice A4 S.args.length c4] 30))) (fun b e => (Op1c.out.lt b e).1)) (by simp; omega) ((Ttb.out.trans (tAl gg _ (Obj.cells #[.int .i64 S.kind, .slice A4 S.args.length c4] 30)))).size ?_
           intro vp2b wp2b op2b rp2b hp2b bp2b
           have Tp2b := Lib.hid (Turn.far (Ttb.out.trans (tAl gg _ (Obj.cells #[.int .i64 S.kind, .slice A4 S.args.length c4] 30))) bp2b)
           have Op2b := Lib.hid (show TyR.Own (Good (· = gg) W5) W5.heap.size vp2b (G ++ [S]) wp2b from op2b)
           have Kp2b := Lib.hid (((Deck.box Ktb.out (Obj.cells #[.int .i64 S.kind, .slice A4 S.args.length c4] 30))).grown rp2b (fun k e => by have := (Otb.out.lt k e).1; omega))
           try (have KSLp2b := Lib.hid (And.intro (Blk.grownNe (Turn.blk (tAl gg _ (Obj.cells #[.int .i64 S.kind, .slice A4 S.args.length c4] 30)) KSLtb.out.1 (by have := KSLtb.out.2; omega)) rp2b NELtb.out) KSLtb.out.2))
           have Cp2b := Lib.hid (own_ctx op2b z_W5 HGS.out)
           have YUp2b := Lib.hid (typ_far Itb.out Ztb.out (below_box wtb (Obj.cells #[.int .i64 S.kind, .slice A4 S.args.length c4] 30)) rp2b (fun k e => by have := (Op1c.out.lt k e).2; have := Stb.out; omega))
           have Qp2b := Lib.hid (Turn.free (n := W5.heap.size - 1) Tp2b.out)
           have Qp2bL := Lib.hid (Turn.free (n := W5.heap.size - 1) (Tp2b.out.trans (tAl gg _ (Obj.cells #[.int .i64 0, .int .i64 0, .int .i64 0, .slice none 0 0, .slice none 0 0] 34))))
           clear op2b rp2b hp2b bp2b)
        | (go_at_call 12
           have Ptb := type_any 1 1 gg ((wp1c.alloc (Obj.cells #[.int .i64 0, .int .i64 0, .int .i64 0, .slice none 0 0, .slice none 0 0] 34)).alloc (Obj.cells #[.int .i64 S.kind, .slice A4 S.args.length c4] 30)) (by omega) (by omega) (by omega) (Deck.box (Deck.box Kp1c.out (Obj.cells #[.int .i64 0, .int .i64 0, .int .i64 0, .slice none 0 0, .slice none 0 0] 34)) (Obj.cells #[.int .i64 S.kind, .slice A4 S.args.length c4] 30))
           (with_reducible refine Ptb.mono ?_)
           rintro e wtb ⟨Utb', xtb, rfl, oktb, sztb, tytb, dtb, utb⟩
           clear Ptb
           have Ttb := Lib.hid (((Tp1c.out.trans (tAl gg _ (Obj.cells #[.int .i64 0, .int .i64 0, .int .i64 0, .slice none 0 0, .slice none 0 0] 34))).trans (tAl gg _ (Obj.cells #[.int .i64 S.kind, .slice A4 S.args.length c4] 30))).trans (turn_of utb))
           have Utb := Lib.hid (((tAl gg _ (Obj.cells #[.int .i64 0, .int .i64 0, .int .i64 0, .slice none 0 0, .slice none 0 0] 34)).trans (tAl gg _ (Obj.cells #[.int .i64 S.kind, .slice A4 S.args.length c4] 30))).trans (turn_of utb))
           obtain ⟨Atb, ctb, rfl⟩ := tytb.form
           have Ktb := Lib.hid dtb
           have Itb := Lib.hid tytb
           have Ztb := Lib.hid ((Deck.box (Deck.box Kp1c.out (Obj.cells #[.int .i64 0, .int .i64 0, .int .i64 0, .slice none 0 0, .slice none 0 0] 34)) (Obj.cells #[.int .i64 S.kind, .slice A4 S.args.length c4] 30))).lt
           have HUtb := Lib.hid (show Utb'.ok = true ∧ Utb'.nodes ≤ 3 from And.intro oktb (type_three sztb))
           have YUtb := Lib.hid (Typ.of tytb ((Deck.box (Deck.box Kp1c.out (Obj.cells #[.int .i64 0, .int .i64 0, .int .i64 0, .slice none 0 0, .slice none 0 0] 34)) (Obj.cells #[.int .i64 S.kind, .slice A4 S.args.length c4] 30))).lt)
           have Otb := Lib.hid (own_turn Op1c.out z_W5 Utb.out)
           have Stb := Lib.hid (show wp1c.heap.size ≤ (((wp1c.alloc (Obj.cells #[.int .i64 0, .int .i64 0, .int .i64 0, .slice none 0 0, .slice none 0 0] 34)).alloc (Obj.cells #[.int .i64 S.kind, .slice A4 S.args.length c4] 30))).heap.size by simp <;> omega)
           have NEBtb := Lib.hid (own_far Op1c.out (show wp1c.heap.size ≤ wp1c.heap.size + 1 by omega))
           have NELtb := Lib.hid (own_far Op1c.out (show wp1c.heap.size ≤ wp1c.heap.size by omega))
           have KSBtb := Lib.hid (And.intro (Turn.blk ((turn_of utb)) (blk_new1 wp1c (Obj.cells #[.int .i64 0, .int .i64 0, .int .i64 0, .slice none 0 0, .slice none 0 0] 34) #[.int .i64 S.kind, .slice A4 S.args.length c4] 30) (by have := Tp1c.out.size; omega)) (show W5.heap.size ≤ wp1c.heap.size + 1 by have := Tp1c.out.size; omega))
           have KSLtb := Lib.hid (And.intro (Turn.blk (((tAl gg _ (Obj.cells #[.int .i64 S.kind, .slice A4 S.args.length c4] 30)).trans (turn_of utb))) (Blk.new wp1c 34 #[.int .i64 0, .int .i64 0, .int .i64 0, .slice none 0 0, .slice none 0 0]) (by have := Tp1c.out.size; omega)) (show W5.heap.size ≤ wp1c.heap.size by have := Tp1c.out.size; omega))
           have Qtb := Lib.hid (Turn.free (n := W5.heap.size - 1) Ttb.out)
           have QtbB := Lib.hid (Turn.free (n := W5.heap.size - 1) (Ttb.out.trans (tAl gg _ (Obj.cells #[.int .i64 S.kind, .slice A4 S.args.length c4] 30))))
           have QtbL := Lib.hid (Turn.free (n := W5.heap.size - 1) (Ttb.out.trans (tAl gg _ (Obj.cells #[.int .i64 0, .int .i64 0, .int .i64 0, .slice none 0 0, .slice none 0 0] 34))))
           have QtbBL := Lib.hid (Turn.free (n := W5.heap.size - 1) ((Ttb.out.trans (tAl gg _ (Obj.cells #[.int .i64 S.kind, .slice A4 S.args.length c4] 30))).trans (tAl gg _ (Obj.cells #[.int .i64 0, .int .i64 0, .int .i64 0, .slice none 0 0, .slice none 0 0] 34))))
           have QtbLB := Lib.hid (Turn.free (n := W5.heap.size - 1) ((Ttb.out.trans (tAl gg _ (Obj.cells #[.int .i64 0, .int .i64 0, .int .i64 0, .slice none 0 0, .slice none 0 0] 34))).trans (tAl gg _ (Obj.cells #[.int .i64 S.kind, .slice A4 S.args.length c4] 30))))
           clear tytb oktb sztb dtb utb)
        | (go_at_call 12
           have Ptb := type_any 1 1 gg ((wp1c.alloc (Obj.cells #[.int .i64 S.kind, .slice A4 S.args.length c4] 30)).alloc (Obj.cells #[.int .i64 0, .int .i64 0, .int .i64 0, .slice none 0 0, .slice none 0 0] 34)) (by omega) (by omega) (by omega) (Deck.box (Deck.box Kp1c.out (Obj.cells #[.int .i64 S.kind, .slice A4 S.args.length c4] 30)) (Obj.cells #[.int .i64 0, .int .i64 0, .int .i64 0, .slice none 0 0, .slice none 0 0] 34))
           (with_reducible refine Ptb.mono ?_)
           rintro e wtb ⟨Utb', xtb, rfl, oktb, sztb, tytb, dtb, utb⟩
           clear Ptb
           have Ttb := Lib.hid (((Tp1c.out.trans (tAl gg _ (Obj.cells #[.int .i64 S.kind, .slice A4 S.args.length c4] 30))).trans (tAl gg _ (Obj.cells #[.int .i64 0, .int .i64 0, .int .i64 0, .slice none 0 0, .slice none 0 0] 34))).trans (turn_of utb))
           have Utb := Lib.hid (((tAl gg _ (Obj.cells #[.int .i64 S.kind, .slice A4 S.args.length c4] 30)).trans (tAl gg _ (Obj.cells #[.int .i64 0, .int .i64 0, .int .i64 0, .slice none 0 0, .slice none 0 0] 34))).trans (turn_of utb))
           obtain ⟨Atb, ctb, rfl⟩ := tytb.form
           have Ktb := Lib.hid dtb
           have Itb := Lib.hid tytb
           have Ztb := Lib.hid ((Deck.box (Deck.box Kp1c.out (Obj.cells #[.int .i64 S.kind, .slice A4 S.args.length c4] 30)) (Obj.cells #[.int .i64 0, .int .i64 0, .int .i64 0, .slice none 0 0, .slice none 0 0] 34))).lt
           have HUtb := Lib.hid (show Utb'.ok = true ∧ Utb'.nodes ≤ 3 from And.intro oktb (type_three sztb))
           have YUtb := Lib.hid (Typ.of tytb ((Deck.box (Deck.box Kp1c.out (Obj.cells #[.int .i64 S.kind, .slice A4 S.args.length c4] 30)) (Obj.cells #[.int .i64 0, .int .i64 0, .int .i64 0, .slice none 0 0, .slice none 0 0] 34))).lt)
           have Otb := Lib.hid (own_turn Op1c.out z_W5 Utb.out)
           have Stb := Lib.hid (show wp1c.heap.size ≤ (((wp1c.alloc (Obj.cells #[.int .i64 S.kind, .slice A4 S.args.length c4] 30)).alloc (Obj.cells #[.int .i64 0, .int .i64 0, .int .i64 0, .slice none 0 0, .slice none 0 0] 34))).heap.size by simp <;> omega)
           have NEBtb := Lib.hid (own_far Op1c.out (show wp1c.heap.size ≤ wp1c.heap.size by omega))
           have NELtb := Lib.hid (own_far Op1c.out (show wp1c.heap.size ≤ wp1c.heap.size + 1 by omega))
           have KSBtb := Lib.hid (And.intro (Turn.blk (((tAl gg _ (Obj.cells #[.int .i64 0, .int .i64 0, .int .i64 0, .slice none 0 0, .slice none 0 0] 34)).trans (turn_of utb))) (Blk.new wp1c 30 #[.int .i64 S.kind, .slice A4 S.args.length c4]) (by have := Tp1c.out.size; omega)) (show W5.heap.size ≤ wp1c.heap.size by have := Tp1c.out.size; omega))
           have KSLtb := Lib.hid (And.intro (Turn.blk ((turn_of utb)) (blk_new1 wp1c (Obj.cells #[.int .i64 S.kind, .slice A4 S.args.length c4] 30) #[.int .i64 0, .int .i64 0, .int .i64 0, .slice none 0 0, .slice none 0 0] 34) (by have := Tp1c.out.size; omega)) (show W5.heap.size ≤ wp1c.heap.size + 1 by have := Tp1c.out.size; omega))
           have Qtb := Lib.hid (Turn.free (n := W5.heap.size - 1) Ttb.out)
           have QtbB := Lib.hid (Turn.free (n := W5.heap.size - 1) (Ttb.out.trans (tAl gg _ (Obj.cells #[.int .i64 S.kind, .slice A4 S.args.length c4] 30))))
           have QtbL := Lib.hid (Turn.free (n := W5.heap.size - 1) (Ttb.out.trans (tAl gg _ (Obj.cells #[.int .i64 0, .int .i64 0, .int .i64 0, .slice none 0 0, .slice none 0 0] 34))))
           have QtbBL := Lib.hid (Turn.free (n := W5.heap.size - 1) ((Ttb.out.trans (tAl gg _ (Obj.cells #[.int .i64 S.kind, .slice A4 S.args.length c4] 30))).trans (tAl gg _ (Obj.cells #[.int .i64 0, .int .i64 0, .int .i64 0, .slice none 0 0, .slice none 0 0] 34))))
           have QtbLB := Lib.hid (Turn.free (n := W5.heap.size - 1) ((Ttb.out.trans (tAl gg _ (Obj.cells #[.int .i64 0, .int .i64 0, .int .i64 0, .slice none 0 0, .slice none 0 0] 34))).trans (tAl gg _ (Obj.cells #[.int .i64 S.kind, .slice A4 S.args.length c4] 30))))
           clear tytb oktb sztb dtb utb)
        | (go_at_call 12
           have Ptb := type_any 1 1 gg (wp1c.alloc (Obj.cells #[.int .i64 0, .int .i64 0, .int .i64 0, .slice none 0 0, .slice none 0 0] 34)) (by omega) (by omega) (by omega) (Deck.box Kp1c.out (Obj.cells #[.int .i64 0, .int .i64 0, .int .i64 0, .slice none 0 0, .slice none 0 0] 34))
           (with_reducible refine Ptb.mono ?_)
           rintro e wtb ⟨Utb', xtb, rfl, oktb, sztb, tytb, dtb, utb⟩
           clear Ptb
           have Ttb := Lib.hid ((Tp1c.out.trans (tAl gg _ (Obj.cells #[.int .i64 0, .int .i64 0, .int .i64 0, .slice none 0 0, .slice none 0 0] 34))).trans (turn_of utb))
           have Utb := Lib.hid ((tAl gg _ (Obj.cells #[.int .i64 0, .int .i64 0, .int .i64 0, .slice none 0 0, .slice none 0 0] 34)).trans (turn_of utb))
           obtain ⟨Atb, ctb, rfl⟩ := tytb.form
           have Ktb := Lib.hid dtb
           have Itb := Lib.hid tytb
           have Ztb := Lib.hid ((Deck.box Kp1c.out (Obj.cells #[.int .i64 0, .int .i64 0, .int .i64 0, .slice none 0 0, .slice none 0 0] 34))).lt
           have HUtb := Lib.hid (show Utb'.ok = true ∧ Utb'.nodes ≤ 3 from And.intro oktb (type_three sztb))
           have YUtb := Lib.hid (Typ.of tytb ((Deck.box Kp1c.out (Obj.cells #[.int .i64 0, .int .i64 0, .int .i64 0, .slice none 0 0, .slice none 0 0] 34))).lt)
           have Otb := Lib.hid (own_turn Op1c.out z_W5 Utb.out)
           have Stb := Lib.hid (show wp1c.heap.size ≤ ((wp1c.alloc (Obj.cells #[.int .i64 0, .int .i64 0, .int .i64 0, .slice none 0 0, .slice none 0 0] 34))).heap.size by simp <;> omega)
           try (have NEBtb := Lib.hid NEBp1c.out)
           have NELtb := Lib.hid (own_far Op1c.out (show wp1c.heap.size ≤ wp1c.heap.size by omega))
           try (have KSBtb := Lib.hid (And.intro (Turn.blk Utb.out KSBp1c.out.1 (by have := KSBp1c.out.2; omega)) KSBp1c.out.2))
           have KSLtb := Lib.hid (And.intro (Turn.blk ((turn_of utb)) (Blk.new wp1c 34 #[.int .i64 0, .int .i64 0, .int .i64 0, .slice none 0 0, .slice none 0 0]) (by have := Tp1c.out.size; omega)) (show W5.heap.size ≤ wp1c.heap.size by have := Tp1c.out.size; omega))
           have Qtb := Lib.hid (Turn.free (n := W5.heap.size - 1) Ttb.out)
           have QtbB := Lib.hid (Turn.free (n := W5.heap.size - 1) (Ttb.out.trans (tAl gg _ (Obj.cells #[.int .i64 S.kind, .slice A4 S.args.length c4] 30))))
           have QtbL := Lib.hid (Turn.free (n := W5.heap.size - 1) (Ttb.out.trans (tAl gg _ (Obj.cells #[.int .i64 0, .int .i64 0, .int .i64 0, .slice none 0 0, .slice none 0 0] 34))))
           have QtbBL := Lib.hid (Turn.free (n := W5.heap.size - 1) ((Ttb.out.trans (tAl gg _ (Obj.cells #[.int .i64 S.kind, .slice A4 S.args.length c4] 30))).trans (tAl gg _ (Obj.cells #[.int .i64 0, .int .i64 0, .int .i64 0, .slice none 0 0, .slice none 0 0] 34))))
           have QtbLB := Lib.hid (Turn.free (n := W5.heap.size - 1) ((Ttb.out.trans (tAl gg _ (Obj.cells #[.int .i64 0, .int .i64 0, .int .i64 0, .slice none 0 0, .slice none 0 0] 34))).trans (tAl gg _ (Obj.cells #[.int .i64 S.kind, .slice A4 S.args.length c4] 30))))
           clear tytb oktb sztb dtb utb)
        | (go_at_call 12
           have Ptb := type_any 1 1 gg (wp1c.alloc (Obj.cells #[.int .i64 S.kind, .slice A4 S.args.length c4] 30)) (by omega) (by omega) (by omega) (Deck.box Kp1c.out (Obj.cells #[.int .i64 S.kind, .slice A4 S.args.length c4] 30))
           (with_reducible refine Ptb.mono ?_)
           rintro e wtb ⟨Utb', xtb, rfl, oktb, sztb, tytb, dtb, utb⟩
           clear Ptb
           have Ttb := Lib.hid ((Tp1c.out.trans (tAl gg _ (Obj.cells #[.int .i64 S.kind, .slice A4 S.args.length c4] 30))).trans (turn_of utb))
           have Utb := Lib.hid ((tAl gg _ (Obj.cells #[.int .i64 S.kind, .slice A4 S.args.length c4] 30)).trans (turn_of utb))
           obtain ⟨Atb, ctb, rfl⟩ := tytb.form
           have Ktb := Lib.hid dtb
           have Itb := Lib.hid tytb
           have Ztb := Lib.hid ((Deck.box Kp1c.out (Obj.cells #[.int .i64 S.kind, .slice A4 S.args.length c4] 30))).lt
           have HUtb := Lib.hid (show Utb'.ok = true ∧ Utb'.nodes ≤ 3 from And.intro oktb (type_three sztb))
           have YUtb := Lib.hid (Typ.of tytb ((Deck.box Kp1c.out (Obj.cells #[.int .i64 S.kind, .slice A4 S.args.length c4] 30))).lt)
           have Otb := Lib.hid (own_turn Op1c.out z_W5 Utb.out)
           have Stb := Lib.hid (show wp1c.heap.size ≤ ((wp1c.alloc (Obj.cells #[.int .i64 S.kind, .slice A4 S.args.length c4] 30))).heap.size by simp <;> omega)
           have NEBtb := Lib.hid (own_far Op1c.out (show wp1c.heap.size ≤ wp1c.heap.size by omega))
           try (have NELtb := Lib.hid NELp1c.out)
           have KSBtb := Lib.hid (And.intro (Turn.blk ((turn_of utb)) (Blk.new wp1c 30 #[.int .i64 S.kind, .slice A4 S.args.length c4]) (by have := Tp1c.out.size; omega)) (show W5.heap.size ≤ wp1c.heap.size by have := Tp1c.out.size; omega))
           try (have KSLtb := Lib.hid (And.intro (Turn.blk Utb.out KSLp1c.out.1 (by have := KSLp1c.out.2; omega)) KSLp1c.out.2))
           have Qtb := Lib.hid (Turn.free (n := W5.heap.size - 1) Ttb.out)
           have QtbB := Lib.hid (Turn.free (n := W5.heap.size - 1) (Ttb.out.trans (tAl gg _ (Obj.cells #[.int .i64 S.kind, .slice A4 S.args.length c4] 30))))
           have QtbL := Lib.hid (Turn.free (n := W5.heap.size - 1) (Ttb.out.trans (tAl gg _ (Obj.cells #[.int .i64 0, .int .i64 0, .int .i64 0, .slice none 0 0, .slice none 0 0] 34))))
           have QtbBL := Lib.hid (Turn.free (n := W5.heap.size - 1) ((Ttb.out.trans (tAl gg _ (Obj.cells #[.int .i64 S.kind, .slice A4 S.args.length c4] 30))).trans (tAl gg _ (Obj.cells #[.int .i64 0, .int .i64 0, .int .i64 0, .slice none 0 0, .slice none 0 0] 34))))
           have QtbLB := Lib.hid (Turn.free (n := W5.heap.size - 1) ((Ttb.out.trans (tAl gg _ (Obj.cells #[.int .i64 0, .int .i64 0, .int .i64 0, .slice none 0 0, .slice none 0 0] 34))).trans (tAl gg _ (Obj.cells #[.int .i64 S.kind, .slice A4 S.args.length c4] 30))))
           clear tytb oktb sztb dtb utb)
        | (go_at_call 12
           have Ptb := type_any 1 1 gg wp1c (by omega) (by omega) (by omega) Kp1c.out
           (with_reducible refine Ptb.mono ?_)
           rintro e wtb ⟨Utb', xtb, rfl, oktb, sztb, tytb, dtb, utb⟩
           clear Ptb
           have Ttb := Lib.hid (Tp1c.out.trans (turn_of utb))
           have Utb := Lib.hid (turn_of utb)
           obtain ⟨Atb, ctb, rfl⟩ := tytb.form
           have Ktb := Lib.hid dtb
           have Itb := Lib.hid tytb
           have Ztb := Lib.hid (Kp1c.out).lt
           have HUtb := Lib.hid (show Utb'.ok = true ∧ Utb'.nodes ≤ 3 from And.intro oktb (type_three sztb))
           have YUtb := Lib.hid (Typ.of tytb (Kp1c.out).lt)
           have Otb := Lib.hid (own_turn Op1c.out z_W5 Utb.out)
           have Stb := Lib.hid (show wp1c.heap.size ≤ (wp1c).heap.size by simp <;> omega)
           try (have NEBtb := Lib.hid NEBp1c.out)
           try (have NELtb := Lib.hid NELp1c.out)
           try (have KSBtb := Lib.hid (And.intro (Turn.blk Utb.out KSBp1c.out.1 (by have := KSBp1c.out.2; omega)) KSBp1c.out.2))
           try (have KSLtb := Lib.hid (And.intro (Turn.blk Utb.out KSLp1c.out.1 (by have := KSLp1c.out.2; omega)) KSLp1c.out.2))
           have Qtb := Lib.hid (Turn.free (n := W5.heap.size - 1) Ttb.out)
           have QtbB := Lib.hid (Turn.free (n := W5.heap.size - 1) (Ttb.out.trans (tAl gg _ (Obj.cells #[.int .i64 S.kind, .slice A4 S.args.length c4] 30))))
           have QtbL := Lib.hid (Turn.free (n := W5.heap.size - 1) (Ttb.out.trans (tAl gg _ (Obj.cells #[.int .i64 0, .int .i64 0, .int .i64 0, .slice none 0 0, .slice none 0 0] 34))))
           have QtbBL := Lib.hid (Turn.free (n := W5.heap.size - 1) ((Ttb.out.trans (tAl gg _ (Obj.cells #[.int .i64 S.kind, .slice A4 S.args.length c4] 30))).trans (tAl gg _ (Obj.cells #[.int .i64 0, .int .i64 0, .int .i64 0, .slice none 0 0, .slice none 0 0] 34))))
           have QtbLB := Lib.hid (Turn.free (n := W5.heap.size - 1) ((Ttb.out.trans (tAl gg _ (Obj.cells #[.int .i64 0, .int .i64 0, .int .i64 0, .slice none 0 0, .slice none 0 0] 34))).trans (tAl gg _ (Obj.cells #[.int .i64 S.kind, .slice A4 S.args.length c4] 30))))
           clear tytb oktb sztb dtb utb)
        | (go_at_call 13
           have Pp3c := term_any gg (4 * 3 + Utc'.nodes + 1) (G ++ [S]) Utc' 3 vp2c _ (wtc.alloc (Obj.cells #[.int .i64 0, .int .i64 0, .int .i64 0, .slice none 0 0, .slice none 0 0] 34)) (by simp) (by have := HUtc.out.2; omega) (by have := HUtc.out.2; omega) (by have := HUtc.out.2; simp; omega) HUtc.out.1 HUtc.out.2 (Ctx.turn Cp2c.out (Utc.out.trans (tAl gg _ (Obj.cells #[.int .i64 0, .int .i64 0, .int .i64 0, .slice none 0 0, .slice none 0 0] 34)))) (Typ.turn YUtc.out (tAl gg _ (Obj.cells #[.int .i64 0, .int .i64 0, .int .i64 0, .slice none 0 0, .slice none 0 0] 34))) (Deck.box Ktc.out (Obj.cells #[.int .i64 0, .int .i64 0, .int .i64 0, .slice none 0 0, .slice none 0 0] 34))
           (with_reducible refine Pp3c.mono ?_)
           rintro e wp3c ⟨yp3c, vp3c, rfl, mp3c, tp3c, kp3c, up3c⟩
           clear Pp3c
           have Tp3c := Lib.hid ((Ttc.out.trans (tAl gg _ (Obj.cells #[.int .i64 0, .int .i64 0, .int .i64 0, .slice none 0 0, .slice none 0 0] 34))).trans (up3c))
           have Up3c := Lib.hid ((tAl gg _ (Obj.cells #[.int .i64 0, .int .i64 0, .int .i64 0, .slice none 0 0, .slice none 0 0] 34)).trans (up3c))
           obtain ⟨Bp3c, ep3c, Ap3c, cp3c, rfl, _⟩ := IsTm.form tp3c
           have Kp3c := Lib.hid kp3c
           clear kp3c
           have KSLp3c := Lib.hid (And.intro (Turn.blk ((up3c)) (Blk.new wtc 34 #[.int .i64 0, .int .i64 0, .int .i64 0, .slice none 0 0, .slice none 0 0]) (by have := Ttc.out.size; omega)) (show W5.heap.size ≤ wtc.heap.size by have := Ttc.out.size; omega))
           have Qp3c := Lib.hid (Turn.free (n := W5.heap.size - 1) Tp3c.out)
           have Qp3cL := Lib.hid (Turn.free (n := W5.heap.size - 1) (Tp3c.out.trans (tAl gg _ (Obj.cells #[.int .i64 0, .int .i64 0, .int .i64 0, .slice none 0 0, .slice none 0 0] 34))))
           have HYP := Lib.hid (show (fun y => Made (G ++ [S]) Utc' (bdN ((3 : Int)).toNat Utc') (bdO ((3 : Int)).toNat Utc') y) yp3c from mp3c)
           have QFp3c := Lib.hid (Turn.free (n := W5.heap.size - 1) (Tp3c.out.trans (tAl gg _ (Obj.cells #[.int .i64 yp3c.kind, .int .i64 yp3c.index, .int .i64 yp3c.type.kind, .slice Bp3c yp3c.type.args.length ep3c, .slice Ap3c yp3c.args.length cp3c] 34))))
           have ENDN := Lib.hid (show StepU gg G S W5 _ _ from ⟨Utc', HUtc.out.1, HUtc.out.2, step_new (W := W5) HYP.out ((Ttc.out.trans (tAl gg _ (Obj.cells #[.int .i64 0, .int .i64 0, .int .i64 0, .slice none 0 0, .slice none 0 0] 34)))).size Tp3c.out Kp3c.out tp3c⟩)
           (have END := Lib.hid (show StepU gg G S W5 _ _ from ⟨Utc', HUtc.out.1, HUtc.out.2, step_set (W := W5) HYP.out KSLp3c.out.1 z_W5 KSLp3c.out.2 (Nat.le_refl _) (by simp) Tp3c.out Kp3c.out tp3c⟩))
           (have QSp3c := Lib.hid (Turn.trans Qp3c.out (free_set5b KSLp3c.out z_W5 (.int .i64 yp3c.kind) (.int .i64 yp3c.index) (.int .i64 yp3c.type.kind) (.slice Bp3c yp3c.type.args.length ep3c) (.slice Ap3c yp3c.args.length cp3c))))
           (obtain ⟨_, _, _, _, _, f0, f1, f2, f3, f4⟩ := KSLp3c.out.1.facts5))
        | (go_at_call 13
           have Pp3c := term_any gg (4 * 3 + Utc'.nodes + 1) (G ++ [S]) Utc' 3 vp2c _ wtc (by simp) (by have := HUtc.out.2; omega) (by have := HUtc.out.2; omega) (by have := HUtc.out.2; simp; omega) HUtc.out.1 HUtc.out.2 (Ctx.turn Cp2c.out Utc.out) YUtc.out Ktc.out
           (with_reducible refine Pp3c.mono ?_)
           rintro e wp3c ⟨yp3c, vp3c, rfl, mp3c, tp3c, kp3c, up3c⟩
           clear Pp3c
           have Tp3c := Lib.hid (Ttc.out.trans (up3c))
           have Up3c := Lib.hid (up3c)
           obtain ⟨Bp3c, ep3c, Ap3c, cp3c, rfl, _⟩ := IsTm.form tp3c
           have Kp3c := Lib.hid kp3c
           clear kp3c
           try (have KSLp3c := Lib.hid (And.intro (Turn.blk Up3c.out KSLtc.out.1 (by have := KSLtc.out.2; omega)) KSLtc.out.2))
           have Qp3c := Lib.hid (Turn.free (n := W5.heap.size - 1) Tp3c.out)
           have Qp3cL := Lib.hid (Turn.free (n := W5.heap.size - 1) (Tp3c.out.trans (tAl gg _ (Obj.cells #[.int .i64 0, .int .i64 0, .int .i64 0, .slice none 0 0, .slice none 0 0] 34))))
           have HYP := Lib.hid (show (fun y => Made (G ++ [S]) Utc' (bdN ((3 : Int)).toNat Utc') (bdO ((3 : Int)).toNat Utc') y) yp3c from mp3c)
           have QFp3c := Lib.hid (Turn.free (n := W5.heap.size - 1) (Tp3c.out.trans (tAl gg _ (Obj.cells #[.int .i64 yp3c.kind, .int .i64 yp3c.index, .int .i64 yp3c.type.kind, .slice Bp3c yp3c.type.args.length ep3c, .slice Ap3c yp3c.args.length cp3c] 34))))
           have ENDN := Lib.hid (show StepU gg G S W5 _ _ from ⟨Utc', HUtc.out.1, HUtc.out.2, step_new (W := W5) HYP.out (Ttc.out).size Tp3c.out Kp3c.out tp3c⟩)
           try (have END := Lib.hid (show StepU gg G S W5 _ _ from ⟨Utc', HUtc.out.1, HUtc.out.2, step_set (W := W5) HYP.out KSLp3c.out.1 z_W5 KSLp3c.out.2 (Nat.le_refl _) (by have := KSLtc.out.1.lt; omega) Tp3c.out Kp3c.out tp3c⟩))
           try (have QSp3c := Lib.hid (Turn.trans Qp3c.out (free_set5b KSLp3c.out z_W5 (.int .i64 yp3c.kind) (.int .i64 yp3c.index) (.int .i64 yp3c.type.kind) (.slice Bp3c yp3c.type.args.length ep3c) (.slice Ap3c yp3c.args.length cp3c))))
           try (obtain ⟨_, _, _, _, _, f0, f1, f2, f3, f4⟩ := KSLp3c.out.1.facts5))
        | (go_at_call 12
           have Ptc := type_any 1 1 gg (wp2c.alloc (Obj.cells #[.int .i64 0, .int .i64 0, .int .i64 0, .slice none 0 0, .slice none 0 0] 34)) (by omega) (by omega) (by omega) (Deck.box Kp2c.out (Obj.cells #[.int .i64 0, .int .i64 0, .int .i64 0, .slice none 0 0, .slice none 0 0] 34))
           (with_reducible refine Ptc.mono ?_)
           rintro e wtc ⟨Utc', xtc, rfl, oktc, sztc, tytc, dtc, utc⟩
           clear Ptc
           have Ttc := Lib.hid ((Tp2c.out.trans (tAl gg _ (Obj.cells #[.int .i64 0, .int .i64 0, .int .i64 0, .slice none 0 0, .slice none 0 0] 34))).trans (turn_of utc))
           have Utc := Lib.hid ((tAl gg _ (Obj.cells #[.int .i64 0, .int .i64 0, .int .i64 0, .slice none 0 0, .slice none 0 0] 34)).trans (turn_of utc))
           obtain ⟨Atc, ctc, rfl⟩ := tytc.form
           have Ktc := Lib.hid dtc
           have Itc := Lib.hid tytc
           have Ztc := Lib.hid ((Deck.box Kp2c.out (Obj.cells #[.int .i64 0, .int .i64 0, .int .i64 0, .slice none 0 0, .slice none 0 0] 34))).lt
           have HUtc := Lib.hid (show Utc'.ok = true ∧ Utc'.nodes ≤ 3 from And.intro oktc (type_three sztc))
           have YUtc := Lib.hid (Typ.of tytc ((Deck.box Kp2c.out (Obj.cells #[.int .i64 0, .int .i64 0, .int .i64 0, .slice none 0 0, .slice none 0 0] 34))).lt)
           have KSLtc := Lib.hid (And.intro (Turn.blk ((turn_of utc)) (Blk.new wp2c 34 #[.int .i64 0, .int .i64 0, .int .i64 0, .slice none 0 0, .slice none 0 0]) (by have := Tp2c.out.size; omega)) (show W5.heap.size ≤ wp2c.heap.size by have := Tp2c.out.size; omega))
           have Qtc := Lib.hid (Turn.free (n := W5.heap.size - 1) Ttc.out)
           have QtcL := Lib.hid (Turn.free (n := W5.heap.size - 1) (Ttc.out.trans (tAl gg _ (Obj.cells #[.int .i64 0, .int .i64 0, .int .i64 0, .slice none 0 0, .slice none 0 0] 34))))
           clear tytc oktc sztc dtc utc)
        | (go_at_call 12
           have Ptc := type_any 1 1 gg wp2c (by omega) (by omega) (by omega) Kp2c.out
           (with_reducible refine Ptc.mono ?_)
           rintro e wtc ⟨Utc', xtc, rfl, oktc, sztc, tytc, dtc, utc⟩
           clear Ptc
           have Ttc := Lib.hid (Tp2c.out.trans (turn_of utc))
           have Utc := Lib.hid (turn_of utc)
           obtain ⟨Atc, ctc, rfl⟩ := tytc.form
           have Ktc := Lib.hid dtc
           have Itc := Lib.hid tytc
           have Ztc := Lib.hid (Kp2c.out).lt
           have HUtc := Lib.hid (show Utc'.ok = true ∧ Utc'.nodes ≤ 3 from And.intro oktc (type_three sztc))
           have YUtc := Lib.hid (Typ.of tytc (Kp2c.out).lt)
           try (have KSLtc := Lib.hid (And.intro (Turn.blk Utc.out KSLp2c.out.1 (by have := KSLp2c.out.2; omega)) KSLp2c.out.2))
           have Qtc := Lib.hid (Turn.free (n := W5.heap.size - 1) Ttc.out)
           have QtcL := Lib.hid (Turn.free (n := W5.heap.size - 1) (Ttc.out.trans (tAl gg _ (Obj.cells #[.int .i64 0, .int .i64 0, .int .i64 0, .slice none 0 0, .slice none 0 0] 34))))
           clear tytc oktc sztc dtc utc)
        | (refine step_append_ty (w := (wp1c.alloc (Obj.cells #[.int .i64 0, .int .i64 0, .int .i64 0, .slice none 0 0, .slice none 0 0] 34))) (by rfl) (.tmp 39) (.tmp 41) (by rfl) (v := vp1c) (u := _) (l := G) (m := [S]) (S := Good (· = gg) W5) (base := W5.heap.size) (by rfl) (by rfl) (Op1c.out.below (below_box wp1c (Obj.cells #[.int .i64 0, .int .i64 0, .int .i64 0, .slice none 0 0, .slice none 0 0] 34))) (src_one (Turn.blk (tAl gg _ (Obj.cells #[.int .i64 0, .int .i64 0, .int .i64 0, .slice none 0 0, .slice none 0 0] 34)) KSBp1c.out.1 (by have := KSBp1c.out.2; omega)) HS5.out (Tp1c.out.trans (tAl gg _ (Obj.cells #[.int .i64 0, .int .i64 0, .int .i64 0, .slice none 0 0, .slice none 0 0] 34))) (fun b e => (Op1c.out.lt b e).1)) (by simp; omega) ((Tp1c.out.trans (tAl gg _ (Obj.cells #[.int .i64 0, .int .i64 0, .int .i64 0, .slice none 0 0, .slice none 0 0] 34)))).size ?_
           intro vp2c wp2c op2c rp2c hp2c bp2c
           have Tp2c := Lib.hid (Turn.far (Tp1c.out.trans (tAl gg _ (Obj.cells #[.int .i64 0, .int .i64 0, .int .i64 0, .slice none 0 0, .slice none 0 0] 34))) bp2c)
           have Op2c := Lib.hid (show TyR.Own (Good (· = gg) W5) W5.heap.size vp2c (G ++ [S]) wp2c from op2c)
           have Kp2c := Lib.hid (((Deck.box Kp1c.out (Obj.cells #[.int .i64 0, .int .i64 0, .int .i64 0, .slice none 0 0, .slice none 0 0] 34))).grown rp2c (fun k e => by have := (Op1c.out.lt k e).1; omega))
           have KSLp2c := Lib.hid (And.intro (Blk.grownNe (Blk.new wp1c 34 #[.int .i64 0, .int .i64 0, .int .i64 0, .slice none 0 0, .slice none 0 0]) rp2c (own_far Op1c.out (by omega))) (show W5.heap.size ≤ wp1c.heap.size by have := Tp1c.out.size; omega))
           have Cp2c := Lib.hid (own_ctx op2c z_W5 HGS.out)
           have Qp2c := Lib.hid (Turn.free (n := W5.heap.size - 1) Tp2c.out)
           have Qp2cL := Lib.hid (Turn.free (n := W5.heap.size - 1) (Tp2c.out.trans (tAl gg _ (Obj.cells #[.int .i64 0, .int .i64 0, .int .i64 0, .slice none 0 0, .slice none 0 0] 34))))
           clear op2c rp2c hp2c bp2c)
        | (refine step_append_ty (w := wp1c) (by rfl) (.tmp 39) (.tmp 41) (by rfl) (v := vp1c) (u := _) (l := G) (m := [S]) (S := Good (· = gg) W5) (base := W5.heap.size) (by rfl) (by rfl) Op1c.out (src_one KSBp1c.out.1 HS5.out Tp1c.out (fun b e => (Op1c.out.lt b e).1)) (by simp; omega) (Tp1c.out).size ?_
           intro vp2c wp2c op2c rp2c hp2c bp2c
           have Tp2c := Lib.hid (Turn.far Tp1c.out bp2c)
           have Op2c := Lib.hid (show TyR.Own (Good (· = gg) W5) W5.heap.size vp2c (G ++ [S]) wp2c from op2c)
           have Kp2c := Lib.hid ((Kp1c.out).grown rp2c (fun k e => by have := (Op1c.out.lt k e).1; omega))
           try (have KSLp2c := Lib.hid (And.intro (Blk.grownNe (Turn.blk (tRf gg wp1c) KSLp1c.out.1 (by have := KSLp1c.out.2; omega)) rp2c NELp1c.out) KSLp1c.out.2))
           have Cp2c := Lib.hid (own_ctx op2c z_W5 HGS.out)
           have Qp2c := Lib.hid (Turn.free (n := W5.heap.size - 1) Tp2c.out)
           have Qp2cL := Lib.hid (Turn.free (n := W5.heap.size - 1) (Tp2c.out.trans (tAl gg _ (Obj.cells #[.int .i64 0, .int .i64 0, .int .i64 0, .slice none 0 0, .slice none 0 0] 34))))
           clear op2c rp2c hp2c bp2c)
        | (refine step_append_ty (w := ((wp1c.alloc (Obj.cells #[.int .i64 0, .int .i64 0, .int .i64 0, .slice none 0 0, .slice none 0 0] 34)).alloc (Obj.cells #[.int .i64 S.kind, .slice A4 S.args.length c4] 30))) (by rfl) (.tmp 39) (.tmp 41) (by rfl) (v := vp1c) (u := .slice (some ⟨wp1c.heap.size + 1, 0, none⟩) 1 1) (l := G) (m := [S]) (S := Good (· = gg) W5) (base := W5.heap.size) (by rfl) (by rfl) ((Op1c.out.below (below_box wp1c (Obj.cells #[.int .i64 0, .int .i64 0, .int .i64 0, .slice none 0 0, .slice none 0 0] 34))).below (below_box _ (Obj.cells #[.int .i64 S.kind, .slice A4 S.args.length c4] 30))) (src_one (blk_new1 wp1c (Obj.cells #[.int .i64 0, .int .i64 0, .int .i64 0, .slice none 0 0, .slice none 0 0] 34) #[.int .i64 S.kind, .slice A4 S.args.length c4] 30) HS5.out ((Tp1c.out.trans (tAl gg _ (Obj.cells #[.int .i64 0, .int .i64 0, .int .i64 0, .slice none 0 0, .slice none 0 0] 34))).trans (tAl gg _ (Obj.cells #[.int .i64 S.kind, .slice A4 S.args.length c4] 30))) (fun b e => (Op1c.out.lt b e).1)) (by simp; omega) (((Tp1c.out.trans (tAl gg _ (Obj.cells #[.int .i64 0, .int .i64 0, .int .i64 0, .slice none 0 0, .slice none 0 0] 34))).trans (tAl gg _ (Obj.cells #[.int .i64 S.kind, .slice A4 S.args.length c4] 30)))).size ?_
           intro vp2c wp2c op2c rp2c hp2c bp2c
           have Tp2c := Lib.hid (Turn.far ((Tp1c.out.trans (tAl gg _ (Obj.cells #[.int .i64 0, .int .i64 0, .int .i64 0, .slice none 0 0, .slice none 0 0] 34))).trans (tAl gg _ (Obj.cells #[.int .i64 S.kind, .slice A4 S.args.length c4] 30))) bp2c)
           have Op2c := Lib.hid (show TyR.Own (Good (· = gg) W5) W5.heap.size vp2c (G ++ [S]) wp2c from op2c)
           have Kp2c := Lib.hid (((Deck.box (Deck.box Kp1c.out (Obj.cells #[.int .i64 0, .int .i64 0, .int .i64 0, .slice none 0 0, .slice none 0 0] 34)) (Obj.cells #[.int .i64 S.kind, .slice A4 S.args.length c4] 30))).grown rp2c (fun k e => by have := (Op1c.out.lt k e).1; omega))
           have KSLp2c := Lib.hid (And.intro (Blk.grownNe (Turn.blk (tAl gg _ (Obj.cells #[.int .i64 S.kind, .slice A4 S.args.length c4] 30)) (Blk.new wp1c 34 #[.int .i64 0, .int .i64 0, .int .i64 0, .slice none 0 0, .slice none 0 0]) (by have := Tp1c.out.size; omega)) rp2c (own_far Op1c.out (by omega))) (show W5.heap.size ≤ wp1c.heap.size by have := Tp1c.out.size; omega))
           have Cp2c := Lib.hid (own_ctx op2c z_W5 HGS.out)
           have Qp2c := Lib.hid (Turn.free (n := W5.heap.size - 1) Tp2c.out)
           have Qp2cL := Lib.hid (Turn.free (n := W5.heap.size - 1) (Tp2c.out.trans (tAl gg _ (Obj.cells #[.int .i64 0, .int .i64 0, .int .i64 0, .slice none 0 0, .slice none 0 0] 34))))
           clear op2c rp2c hp2c bp2c)
        | (refine step_append_ty (w := ((wp1c.alloc (Obj.cells #[.int .i64 S.kind, .slice A4 S.args.length c4] 30)).alloc (Obj.cells #[.int .i64 0, .int .i64 0, .int .i64 0, .slice none 0 0, .slice none 0 0] 34))) (by rfl) (.tmp 39) (.tmp 41) (by rfl) (v := vp1c) (u := .slice (some ⟨wp1c.heap.size, 0, none⟩) 1 1) (l := G) (m := [S]) (S := Good (· = gg) W5) (base := W5.heap.size) (by rfl) (by rfl) ((Op1c.out.below (below_box wp1c (Obj.cells #[.int .i64 S.kind, .slice A4 S.args.length c4] 30))).below (below_box _ (Obj.cells #[.int .i64 0, .int .i64 0, .int .i64 0, .slice none 0 0, .slice none 0 0] 34))) (src_one (Turn.blk (tAl gg _ (Obj.cells #[.int .i64 0, .int .i64 0, .int .i64 0, .slice none 0 0, .slice none 0 0] 34)) (Blk.new wp1c 30 #[.int .i64 S.kind, .slice A4 S.args.length c4]) (by have := Tp1c.out.size; omega)) HS5.out ((Tp1c.out.trans (tAl gg _ (Obj.cells #[.int .i64 S.kind, .slice A4 S.args.length c4] 30))).trans (tAl gg _ (Obj.cells #[.int .i64 0, .int .i64 0, .int .i64 0, .slice none 0 0, .slice none 0 0] 34))) (fun b e => (Op1c.out.lt b e).1)) (by simp; omega) (((Tp1c.out.trans (tAl gg _ (Obj.cells #[.int .i64 S.kind, .slice A4 S.args.length c4] 30))).trans (tAl gg _ (Obj.cells #[.int .i64 0, .int .i64 0, .int .i64 0, .slice none 0 0, .slice none 0 0] 34)))).size ?_
           intro vp2c wp2c op2c rp2c hp2c bp2c
           have Tp2c := Lib.hid (Turn.far ((Tp1c.out.trans (tAl gg _ (Obj.cells #[.int .i64 S.kind, .slice A4 S.args.length c4] 30))).trans (tAl gg _ (Obj.cells #[.int .i64 0, .int .i64 0, .int .i64 0, .slice none 0 0, .slice none 0 0] 34))) bp2c)
           have Op2c := Lib.hid (show TyR.Own (Good (· = gg) W5) W5.heap.size vp2c (G ++ [S]) wp2c from op2c)
           have Kp2c := Lib.hid (((Deck.box (Deck.box Kp1c.out (Obj.cells #[.int .i64 S.kind, .slice A4 S.args.length c4] 30)) (Obj.cells #[.int .i64 0, .int .i64 0, .int .i64 0, .slice none 0 0, .slice none 0 0] 34))).grown rp2c (fun k e => by have := (Op1c.out.lt k e).1; omega))
           have KSLp2c := Lib.hid (And.intro (Blk.grownNe (blk_new1 wp1c (Obj.cells #[.int .i64 S.kind, .slice A4 S.args.length c4] 30) #[.int .i64 0, .int .i64 0, .int .i64 0, .slice none 0 0, .slice none 0 0] 34) rp2c (own_far Op1c.out (by omega))) (show W5.heap.size ≤ wp1c.heap.size + 1 by have := Tp1c.out.size; omega))
           have Cp2c := Lib.hid (own_ctx op2c z_W5 HGS.out)
           have Qp2c := Lib.hid (Turn.free (n := W5.heap.size - 1) Tp2c.out)
           have Qp2cL := Lib.hid (Turn.free (n := W5.heap.size - 1) (Tp2c.out.trans (tAl gg _ (Obj.cells #[.int .i64 0, .int .i64 0, .int .i64 0, .slice none 0 0, .slice none 0 0] 34))))
           clear op2c rp2c hp2c bp2c)
        | (refine step_append_ty (w := (wp1c.alloc (Obj.cells #[.int .i64 S.kind, .slice A4 S.args.length c4] 30))) (by rfl) (.tmp 39) (.tmp 41) (by rfl) (v := vp1c) (u := .slice (some ⟨wp1c.heap.size, 0, none⟩) 1 1) (l := G) (m := [S]) (S := Good (· = gg) W5) (base := W5.heap.size) (by rfl) (by rfl) (Op1c.out.below (below_box wp1c (Obj.cells #[.int .i64 S.kind, .slice A4 S.args.length c4] 30))) (src_one (Blk.new wp1c 30 #[.int .i64 S.kind, .slice A4 S.args.length c4]) HS5.out (Tp1c.out.trans (tAl gg _ (Obj.cells #[.int .i64 S.kind, .slice A4 S.args.length c4] 30))) (fun b e => (Op1c.out.lt b e).1)) (by simp; omega) ((Tp1c.out.trans (tAl gg _ (Obj.cells #[.int .i64 S.kind, .slice A4 S.args.length c4] 30)))).size ?_
           intro vp2c wp2c op2c rp2c hp2c bp2c
           have Tp2c := Lib.hid (Turn.far (Tp1c.out.trans (tAl gg _ (Obj.cells #[.int .i64 S.kind, .slice A4 S.args.length c4] 30))) bp2c)
           have Op2c := Lib.hid (show TyR.Own (Good (· = gg) W5) W5.heap.size vp2c (G ++ [S]) wp2c from op2c)
           have Kp2c := Lib.hid (((Deck.box Kp1c.out (Obj.cells #[.int .i64 S.kind, .slice A4 S.args.length c4] 30))).grown rp2c (fun k e => by have := (Op1c.out.lt k e).1; omega))
           try (have KSLp2c := Lib.hid (And.intro (Blk.grownNe (Turn.blk (tAl gg _ (Obj.cells #[.int .i64 S.kind, .slice A4 S.args.length c4] 30)) KSLp1c.out.1 (by have := KSLp1c.out.2; omega)) rp2c NELp1c.out) KSLp1c.out.2))
           have Cp2c := Lib.hid (own_ctx op2c z_W5 HGS.out)
           have Qp2c := Lib.hid (Turn.free (n := W5.heap.size - 1) Tp2c.out)
           have Qp2cL := Lib.hid (Turn.free (n := W5.heap.size - 1) (Tp2c.out.trans (tAl gg _ (Obj.cells #[.int .i64 0, .int .i64 0, .int .i64 0, .slice none 0 0, .slice none 0 0] 34))))
           clear op2c rp2c hp2c bp2c)
        | (refine step_append_ty (w := ((W5.alloc (Obj.cells #[.int .i64 0, .int .i64 0, .int .i64 0, .slice none 0 0, .slice none 0 0] 34)).alloc (Obj.cells #[.int .i64 S.kind, .slice A4 S.args.length c4] 30)).drew) (by rfl) (.const (.slice none 0 0)) (.tmp 38) (by rfl) (v := .slice none 0 0) (u := .slice A3 G.length c3) (l := []) (m := G) (S := Good (· = gg) W5) (base := W5.heap.size) (by rfl) (by rfl) (Rep.Own.nil (R := TyR) _ _ _) (src_ctx HC5.out (((tAl gg _ (Obj.cells #[.int .i64 0, .int .i64 0, .int .i64 0, .slice none 0 0, .slice none 0 0] 34)).trans (tAl gg _ (Obj.cells #[.int .i64 S.kind, .slice A4 S.args.length c4] 30))).trans (tDr gg _)) (by simp [Value.ownBlock])) (by simp; omega) ((((tAl gg _ (Obj.cells #[.int .i64 0, .int .i64 0, .int .i64 0, .slice none 0 0, .slice none 0 0] 34)).trans (tAl gg _ (Obj.cells #[.int .i64 S.kind, .slice A4 S.args.length c4] 30))).trans (tDr gg _))).size ?_
           intro vp1c wp1c op1c rp1c hp1c bp1c
           have Tp1c := Lib.hid (Turn.far (((tAl gg _ (Obj.cells #[.int .i64 0, .int .i64 0, .int .i64 0, .slice none 0 0, .slice none 0 0] 34)).trans (tAl gg _ (Obj.cells #[.int .i64 S.kind, .slice A4 S.args.length c4] 30))).trans (tDr gg _)) bp1c)
           have Op1c := Lib.hid (show TyR.Own (Good (· = gg) W5) W5.heap.size vp1c ([] ++ G) wp1c from op1c)
           have Kp1c := Lib.hid (((Deck.drewd (Deck.box (Deck.box D_W5.out (Obj.cells #[.int .i64 0, .int .i64 0, .int .i64 0, .slice none 0 0, .slice none 0 0] 34)) (Obj.cells #[.int .i64 S.kind, .slice A4 S.args.length c4] 30)))).grown rp1c (by simp [Value.ownBlock]))
           have KSBp1c := Lib.hid (And.intro (Blk.grownNe (Turn.blk (tDr gg _) (blk_new1 W5 (Obj.cells #[.int .i64 0, .int .i64 0, .int .i64 0, .slice none 0 0, .slice none 0 0] 34) #[.int .i64 S.kind, .slice A4 S.args.length c4] 30) (by have := (Nat.le_refl W5.heap.size); omega)) rp1c (by simp [Value.ownBlock])) (show W5.heap.size ≤ W5.heap.size + 1 by have := (Nat.le_refl W5.heap.size); omega))
           have NEBp1c := Lib.hid (own_ne hp1c rfl (show W5.heap.size + 1 < _ by simp <;> omega))
           have KSLp1c := Lib.hid (And.intro (Blk.grownNe (Turn.blk ((tAl gg _ (Obj.cells #[.int .i64 S.kind, .slice A4 S.args.length c4] 30)).trans (tDr gg _)) (Blk.new W5 34 #[.int .i64 0, .int .i64 0, .int .i64 0, .slice none 0 0, .slice none 0 0]) (by have := (Nat.le_refl W5.heap.size); omega)) rp1c (by simp [Value.ownBlock])) (show W5.heap.size ≤ W5.heap.size by have := (Nat.le_refl W5.heap.size); omega))
           have NELp1c := Lib.hid (own_ne hp1c rfl (show W5.heap.size < _ by simp <;> omega))
           have Qp1c := Lib.hid (Turn.free (n := W5.heap.size - 1) Tp1c.out)
           have Qp1cB := Lib.hid (Turn.free (n := W5.heap.size - 1) (Tp1c.out.trans (tAl gg _ (Obj.cells #[.int .i64 S.kind, .slice A4 S.args.length c4] 30))))
           have Qp1cL := Lib.hid (Turn.free (n := W5.heap.size - 1) (Tp1c.out.trans (tAl gg _ (Obj.cells #[.int .i64 0, .int .i64 0, .int .i64 0, .slice none 0 0, .slice none 0 0] 34))))
           have Qp1cBL := Lib.hid (Turn.free (n := W5.heap.size - 1) ((Tp1c.out.trans (tAl gg _ (Obj.cells #[.int .i64 S.kind, .slice A4 S.args.length c4] 30))).trans (tAl gg _ (Obj.cells #[.int .i64 0, .int .i64 0, .int .i64 0, .slice none 0 0, .slice none 0 0] 34))))
           have Qp1cLB := Lib.hid (Turn.free (n := W5.heap.size - 1) ((Tp1c.out.trans (tAl gg _ (Obj.cells #[.int .i64 0, .int .i64 0, .int .i64 0, .slice none 0 0, .slice none 0 0] 34))).trans (tAl gg _ (Obj.cells #[.int .i64 S.kind, .slice A4 S.args.length c4] 30))))
           clear op1c rp1c hp1c bp1c)
        | (refine step_append_ty (w := ((W5.alloc (Obj.cells #[.int .i64 S.kind, .slice A4 S.args.length c4] 30)).alloc (Obj.cells #[.int .i64 0, .int .i64 0, .int .i64 0, .slice none 0 0, .slice none 0 0] 34)).drew) (by rfl) (.const (.slice none 0 0)) (.tmp 38) (by rfl) (v := .slice none 0 0) (u := .slice A3 G.length c3) (l := []) (m := G) (S := Good (· = gg) W5) (base := W5.heap.size) (by rfl) (by rfl) (Rep.Own.nil (R := TyR) _ _ _) (src_ctx HC5.out (((tAl gg _ (Obj.cells #[.int .i64 S.kind, .slice A4 S.args.length c4] 30)).trans (tAl gg _ (Obj.cells #[.int .i64 0, .int .i64 0, .int .i64 0, .slice none 0 0, .slice none 0 0] 34))).trans (tDr gg _)) (by simp [Value.ownBlock])) (by simp; omega) ((((tAl gg _ (Obj.cells #[.int .i64 S.kind, .slice A4 S.args.length c4] 30)).trans (tAl gg _ (Obj.cells #[.int .i64 0, .int .i64 0, .int .i64 0, .slice none 0 0, .slice none 0 0] 34))).trans (tDr gg _))).size ?_
           intro vp1c wp1c op1c rp1c hp1c bp1c
           have Tp1c := Lib.hid (Turn.far (((tAl gg _ (Obj.cells #[.int .i64 S.kind, .slice A4 S.args.length c4] 30)).trans (tAl gg _ (Obj.cells #[.int .i64 0, .int .i64 0, .int .i64 0, .slice none 0 0, .slice none 0 0] 34))).trans (tDr gg _)) bp1c)
           have Op1c := Lib.hid (show TyR.Own (Good (· = gg) W5) W5.heap.size vp1c ([] ++ G) wp1c from op1c)
           have Kp1c := Lib.hid (((Deck.drewd (Deck.box (Deck.box D_W5.out (Obj.cells #[.int .i64 S.kind, .slice A4 S.args.length c4] 30)) (Obj.cells #[.int .i64 0, .int .i64 0, .int .i64 0, .slice none 0 0, .slice none 0 0] 34)))).grown rp1c (by simp [Value.ownBlock]))
           have KSBp1c := Lib.hid (And.intro (Blk.grownNe (Turn.blk ((tAl gg _ (Obj.cells #[.int .i64 0, .int .i64 0, .int .i64 0, .slice none 0 0, .slice none 0 0] 34)).trans (tDr gg _)) (Blk.new W5 30 #[.int .i64 S.kind, .slice A4 S.args.length c4]) (by have := (Nat.le_refl W5.heap.size); omega)) rp1c (by simp [Value.ownBlock])) (show W5.heap.size ≤ W5.heap.size by have := (Nat.le_refl W5.heap.size); omega))
           have NEBp1c := Lib.hid (own_ne hp1c rfl (show W5.heap.size < _ by simp <;> omega))
           have KSLp1c := Lib.hid (And.intro (Blk.grownNe (Turn.blk (tDr gg _) (blk_new1 W5 (Obj.cells #[.int .i64 S.kind, .slice A4 S.args.length c4] 30) #[.int .i64 0, .int .i64 0, .int .i64 0, .slice none 0 0, .slice none 0 0] 34) (by have := (Nat.le_refl W5.heap.size); omega)) rp1c (by simp [Value.ownBlock])) (show W5.heap.size ≤ W5.heap.size + 1 by have := (Nat.le_refl W5.heap.size); omega))
           have NELp1c := Lib.hid (own_ne hp1c rfl (show W5.heap.size + 1 < _ by simp <;> omega))
           have Qp1c := Lib.hid (Turn.free (n := W5.heap.size - 1) Tp1c.out)
           have Qp1cB := Lib.hid (Turn.free (n := W5.heap.size - 1) (Tp1c.out.trans (tAl gg _ (Obj.cells #[.int .i64 S.kind, .slice A4 S.args.length c4] 30))))
           have Qp1cL := Lib.hid (Turn.free (n := W5.heap.size - 1) (Tp1c.out.trans (tAl gg _ (Obj.cells #[.int .i64 0, .int .i64 0, .int .i64 0, .slice none 0 0, .slice none 0 0] 34))))
           have Qp1cBL := Lib.hid (Turn.free (n := W5.heap.size - 1) ((Tp1c.out.trans (tAl gg _ (Obj.cells #[.int .i64 S.kind, .slice A4 S.args.length c4] 30))).trans (tAl gg _ (Obj.cells #[.int .i64 0, .int .i64 0, .int .i64 0, .slice none 0 0, .slice none 0 0] 34))))
           have Qp1cLB := Lib.hid (Turn.free (n := W5.heap.size - 1) ((Tp1c.out.trans (tAl gg _ (Obj.cells #[.int .i64 0, .int .i64 0, .int .i64 0, .slice none 0 0, .slice none 0 0] 34))).trans (tAl gg _ (Obj.cells #[.int .i64 S.kind, .slice A4 S.args.length c4] 30))))
           clear op1c rp1c hp1c bp1c)
        | (refine step_append_ty (w := (W5.alloc (Obj.cells #[.int .i64 0, .int .i64 0, .int .i64 0, .slice none 0 0, .slice none 0 0] 34)).drew) (by rfl) (.const (.slice none 0 0)) (.tmp 38) (by rfl) (v := .slice none 0 0) (u := .slice A3 G.length c3) (l := []) (m := G) (S := Good (· = gg) W5) (base := W5.heap.size) (by rfl) (by rfl) (Rep.Own.nil (R := TyR) _ _ _) (src_ctx HC5.out ((tAl gg _ (Obj.cells #[.int .i64 0, .int .i64 0, .int .i64 0, .slice none 0 0, .slice none 0 0] 34)).trans (tDr gg _)) (by simp [Value.ownBlock])) (by simp; omega) (((tAl gg _ (Obj.cells #[.int .i64 0, .int .i64 0, .int .i64 0, .slice none 0 0, .slice none 0 0] 34)).trans (tDr gg _))).size ?_
           intro vp1c wp1c op1c rp1c hp1c bp1c
           have Tp1c := Lib.hid (Turn.far ((tAl gg _ (Obj.cells #[.int .i64 0, .int .i64 0, .int .i64 0, .slice none 0 0, .slice none 0 0] 34)).trans (tDr gg _)) bp1c)
           have Op1c := Lib.hid (show TyR.Own (Good (· = gg) W5) W5.heap.size vp1c ([] ++ G) wp1c from op1c)
           have Kp1c := Lib.hid (((Deck.drewd (Deck.box D_W5.out (Obj.cells #[.int .i64 0, .int .i64 0, .int .i64 0, .slice none 0 0, .slice none 0 0] 34)))).grown rp1c (by simp [Value.ownBlock]))
           have KSLp1c := Lib.hid (And.intro (Blk.grownNe (Turn.blk (tDr gg _) (Blk.new W5 34 #[.int .i64 0, .int .i64 0, .int .i64 0, .slice none 0 0, .slice none 0 0]) (by have := (Nat.le_refl W5.heap.size); omega)) rp1c (by simp [Value.ownBlock])) (show W5.heap.size ≤ W5.heap.size by have := (Nat.le_refl W5.heap.size); omega))
           have NELp1c := Lib.hid (own_ne hp1c rfl (show W5.heap.size < _ by simp <;> omega))
           have Qp1c := Lib.hid (Turn.free (n := W5.heap.size - 1) Tp1c.out)
           have Qp1cB := Lib.hid (Turn.free (n := W5.heap.size - 1) (Tp1c.out.trans (tAl gg _ (Obj.cells #[.int .i64 S.kind, .slice A4 S.args.length c4] 30))))
           have Qp1cL := Lib.hid (Turn.free (n := W5.heap.size - 1) (Tp1c.out.trans (tAl gg _ (Obj.cells #[.int .i64 0, .int .i64 0, .int .i64 0, .slice none 0 0, .slice none 0 0] 34))))
           have Qp1cBL := Lib.hid (Turn.free (n := W5.heap.size - 1) ((Tp1c.out.trans (tAl gg _ (Obj.cells #[.int .i64 S.kind, .slice A4 S.args.length c4] 30))).trans (tAl gg _ (Obj.cells #[.int .i64 0, .int .i64 0, .int .i64 0, .slice none 0 0, .slice none 0 0] 34))))
           have Qp1cLB := Lib.hid (Turn.free (n := W5.heap.size - 1) ((Tp1c.out.trans (tAl gg _ (Obj.cells #[.int .i64 0, .int .i64 0, .int .i64 0, .slice none 0 0, .slice none 0 0] 34))).trans (tAl gg _ (Obj.cells #[.int .i64 S.kind, .slice A4 S.args.length c4] 30))))
           clear op1c rp1c hp1c bp1c)
        | (refine step_append_ty (w := (W5.alloc (Obj.cells #[.int .i64 S.kind, .slice A4 S.args.length c4] 30)).drew) (by rfl) (.const (.slice none 0 0)) (.tmp 38) (by rfl) (v := .slice none 0 0) (u := .slice A3 G.length c3) (l := []) (m := G) (S := Good (· = gg) W5) (base := W5.heap.size) (by rfl) (by rfl) (Rep.Own.nil (R := TyR) _ _ _) (src_ctx HC5.out ((tAl gg _ (Obj.cells #[.int .i64 S.kind, .slice A4 S.args.length c4] 30)).trans (tDr gg _)) (by simp [Value.ownBlock])) (by simp; omega) (((tAl gg _ (Obj.cells #[.int .i64 S.kind, .slice A4 S.args.length c4] 30)).trans (tDr gg _))).size ?_
           intro vp1c wp1c op1c rp1c hp1c bp1c
           have Tp1c := Lib.hid (Turn.far ((tAl gg _ (Obj.cells #[.int .i64 S.kind, .slice A4 S.args.length c4] 30)).trans (tDr gg _)) bp1c)
           have Op1c := Lib.hid (show TyR.Own (Good (· = gg) W5) W5.heap.size vp1c ([] ++ G) wp1c from op1c)
           have Kp1c := Lib.hid (((Deck.drewd (Deck.box D_W5.out (Obj.cells #[.int .i64 S.kind, .slice A4 S.args.length c4] 30)))).grown rp1c (by simp [Value.ownBlock]))
           have KSBp1c := Lib.hid (And.intro (Blk.grownNe (Turn.blk (tDr gg _) (Blk.new W5 30 #[.int .i64 S.kind, .slice A4 S.args.length c4]) (by have := (Nat.le_refl W5.heap.size); omega)) rp1c (by simp [Value.ownBlock])) (show W5.heap.size ≤ W5.heap.size by have := (Nat.le_refl W5.heap.size); omega))
           have NEBp1c := Lib.hid (own_ne hp1c rfl (show W5.heap.size < _ by simp <;> omega))
           have Qp1c := Lib.hid (Turn.free (n := W5.heap.size - 1) Tp1c.out)
           have Qp1cB := Lib.hid (Turn.free (n := W5.heap.size - 1) (Tp1c.out.trans (tAl gg _ (Obj.cells #[.int .i64 S.kind, .slice A4 S.args.length c4] 30))))
           have Qp1cL := Lib.hid (Turn.free (n := W5.heap.size - 1) (Tp1c.out.trans (tAl gg _ (Obj.cells #[.int .i64 0, .int .i64 0, .int .i64 0, .slice none 0 0, .slice none 0 0] 34))))
           have Qp1cBL := Lib.hid (Turn.free (n := W5.heap.size - 1) ((Tp1c.out.trans (tAl gg _ (Obj.cells #[.int .i64 S.kind, .slice A4 S.args.length c4] 30))).trans (tAl gg _ (Obj.cells #[.int .i64 0, .int .i64 0, .int .i64 0, .slice none 0 0, .slice none 0 0] 34))))
           have Qp1cLB := Lib.hid (Turn.free (n := W5.heap.size - 1) ((Tp1c.out.trans (tAl gg _ (Obj.cells #[.int .i64 0, .int .i64 0, .int .i64 0, .slice none 0 0, .slice none 0 0] 34))).trans (tAl gg _ (Obj.cells #[.int .i64 S.kind, .slice A4 S.args.length c4] 30))))
           clear op1c rp1c hp1c bp1c)
        | (refine step_append_ty (w := W5.drew) (by rfl) (.const (.slice none 0 0)) (.tmp 38) (by rfl) (v := .slice none 0 0) (u := .slice A3 G.length c3) (l := []) (m := G) (S := Good (· = gg) W5) (base := W5.heap.size) (by rfl) (by rfl) (Rep.Own.nil (R := TyR) _ _ _) (src_ctx HC5.out (tDr gg _) (by simp [Value.ownBlock])) (by simp; omega) ((tDr gg _)).size ?_
           intro vp1c wp1c op1c rp1c hp1c bp1c
           have Tp1c := Lib.hid (Turn.far (tDr gg _) bp1c)
           have Op1c := Lib.hid (show TyR.Own (Good (· = gg) W5) W5.heap.size vp1c ([] ++ G) wp1c from op1c)
           have Kp1c := Lib.hid (((Deck.drewd D_W5.out)).grown rp1c (by simp [Value.ownBlock]))
           have Qp1c := Lib.hid (Turn.free (n := W5.heap.size - 1) Tp1c.out)
           have Qp1cB := Lib.hid (Turn.free (n := W5.heap.size - 1) (Tp1c.out.trans (tAl gg _ (Obj.cells #[.int .i64 S.kind, .slice A4 S.args.length c4] 30))))
           have Qp1cL := Lib.hid (Turn.free (n := W5.heap.size - 1) (Tp1c.out.trans (tAl gg _ (Obj.cells #[.int .i64 0, .int .i64 0, .int .i64 0, .slice none 0 0, .slice none 0 0] 34))))
           have Qp1cBL := Lib.hid (Turn.free (n := W5.heap.size - 1) ((Tp1c.out.trans (tAl gg _ (Obj.cells #[.int .i64 S.kind, .slice A4 S.args.length c4] 30))).trans (tAl gg _ (Obj.cells #[.int .i64 0, .int .i64 0, .int .i64 0, .slice none 0 0, .slice none 0 0] 34))))
           have Qp1cLB := Lib.hid (Turn.free (n := W5.heap.size - 1) ((Tp1c.out.trans (tAl gg _ (Obj.cells #[.int .i64 0, .int .i64 0, .int .i64 0, .slice none 0 0, .slice none 0 0] 34))).trans (tAl gg _ (Obj.cells #[.int .i64 S.kind, .slice A4 S.args.length c4] 30))))
           clear op1c rp1c hp1c bp1c)
        | (go_at_call 13
           have Pp3a := term_any gg (4 * 3 + Uta'.nodes + 1) (G ++ [S]) Uta' 3 vp2a _ (wp2a.alloc (Obj.cells #[.int .i64 0, .int .i64 0, .int .i64 0, .slice none 0 0, .slice none 0 0] 34)) (by simp) (by have := HUta.out.2; omega) (by have := HUta.out.2; omega) (by have := HUta.out.2; simp; omega) HUta.out.1 HUta.out.2 (Ctx.turn Cp2a.out (tAl gg _ (Obj.cells #[.int .i64 0, .int .i64 0, .int .i64 0, .slice none 0 0, .slice none 0 0] 34))) (Typ.turn YUta.out (TBp2a.out.trans (tAl gg _ (Obj.cells #[.int .i64 0, .int .i64 0, .int .i64 0, .slice none 0 0, .slice none 0 0] 34)))) (Deck.box Kp2a.out (Obj.cells #[.int .i64 0, .int .i64 0, .int .i64 0, .slice none 0 0, .slice none 0 0] 34))
           (with_reducible refine Pp3a.mono ?_)
           rintro e wp3a ⟨yp3a, vp3a, rfl, mp3a, tp3a, kp3a, up3a⟩
           clear Pp3a
           have Tp3a := Lib.hid ((Tp2a.out.trans (tAl gg _ (Obj.cells #[.int .i64 0, .int .i64 0, .int .i64 0, .slice none 0 0, .slice none 0 0] 34))).trans (up3a))
           have Up3a := Lib.hid ((tAl gg _ (Obj.cells #[.int .i64 0, .int .i64 0, .int .i64 0, .slice none 0 0, .slice none 0 0] 34)).trans (up3a))
           obtain ⟨Bp3a, ep3a, Ap3a, cp3a, rfl, _⟩ := IsTm.form tp3a
           have Kp3a := Lib.hid kp3a
           clear kp3a
           have KSLp3a := Lib.hid (And.intro (Turn.blk ((up3a)) (Blk.new wp2a 34 #[.int .i64 0, .int .i64 0, .int .i64 0, .slice none 0 0, .slice none 0 0]) (by have := Tp2a.out.size; omega)) (show W5.heap.size ≤ wp2a.heap.size by have := Tp2a.out.size; omega))
           have Qp3a := Lib.hid (Turn.free (n := W5.heap.size - 1) Tp3a.out)
           have Qp3aL := Lib.hid (Turn.free (n := W5.heap.size - 1) (Tp3a.out.trans (tAl gg _ (Obj.cells #[.int .i64 0, .int .i64 0, .int .i64 0, .slice none 0 0, .slice none 0 0] 34))))
           have HYP := Lib.hid (show (fun y => Made (G ++ [S]) Uta' (bdN ((3 : Int)).toNat Uta') (bdO ((3 : Int)).toNat Uta') y) yp3a from mp3a)
           have QFp3a := Lib.hid (Turn.free (n := W5.heap.size - 1) (Tp3a.out.trans (tAl gg _ (Obj.cells #[.int .i64 yp3a.kind, .int .i64 yp3a.index, .int .i64 yp3a.type.kind, .slice Bp3a yp3a.type.args.length ep3a, .slice Ap3a yp3a.args.length cp3a] 34))))
           have ENDN := Lib.hid (show StepU gg G S W5 _ _ from ⟨Uta', HUta.out.1, HUta.out.2, step_new (W := W5) HYP.out ((Tp2a.out.trans (tAl gg _ (Obj.cells #[.int .i64 0, .int .i64 0, .int .i64 0, .slice none 0 0, .slice none 0 0] 34)))).size Tp3a.out Kp3a.out tp3a⟩)
           (have END := Lib.hid (show StepU gg G S W5 _ _ from ⟨Uta', HUta.out.1, HUta.out.2, step_set (W := W5) HYP.out KSLp3a.out.1 z_W5 KSLp3a.out.2 (Nat.le_refl _) (by simp) Tp3a.out Kp3a.out tp3a⟩))
           (have QSp3a := Lib.hid (Turn.trans Qp3a.out (free_set5b KSLp3a.out z_W5 (.int .i64 yp3a.kind) (.int .i64 yp3a.index) (.int .i64 yp3a.type.kind) (.slice Bp3a yp3a.type.args.length ep3a) (.slice Ap3a yp3a.args.length cp3a))))
           (obtain ⟨_, _, _, _, _, f0, f1, f2, f3, f4⟩ := KSLp3a.out.1.facts5))
        | (go_at_call 13
           have Pp3a := term_any gg (4 * 3 + Uta'.nodes + 1) (G ++ [S]) Uta' 3 vp2a _ wp2a (by simp) (by have := HUta.out.2; omega) (by have := HUta.out.2; omega) (by have := HUta.out.2; simp; omega) HUta.out.1 HUta.out.2 Cp2a.out (Typ.turn YUta.out TBp2a.out) Kp2a.out
           (with_reducible refine Pp3a.mono ?_)
           rintro e wp3a ⟨yp3a, vp3a, rfl, mp3a, tp3a, kp3a, up3a⟩
           clear Pp3a
           have Tp3a := Lib.hid (Tp2a.out.trans (up3a))
           have Up3a := Lib.hid (up3a)
           obtain ⟨Bp3a, ep3a, Ap3a, cp3a, rfl, _⟩ := IsTm.form tp3a
           have Kp3a := Lib.hid kp3a
           clear kp3a
           try (have KSLp3a := Lib.hid (And.intro (Turn.blk Up3a.out KSLp2a.out.1 (by have := KSLp2a.out.2; omega)) KSLp2a.out.2))
           have Qp3a := Lib.hid (Turn.free (n := W5.heap.size - 1) Tp3a.out)
           have Qp3aL := Lib.hid (Turn.free (n := W5.heap.size - 1) (Tp3a.out.trans (tAl gg _ (Obj.cells #[.int .i64 0, .int .i64 0, .int .i64 0, .slice none 0 0, .slice none 0 0] 34))))
           have HYP := Lib.hid (show (fun y => Made (G ++ [S]) Uta' (bdN ((3 : Int)).toNat Uta') (bdO ((3 : Int)).toNat Uta') y) yp3a from mp3a)
           have QFp3a := Lib.hid (Turn.free (n := W5.heap.size - 1) (Tp3a.out.trans (tAl gg _ (Obj.cells #[.int .i64 yp3a.kind, .int .i64 yp3a.index, .int .i64 yp3a.type.kind, .slice Bp3a yp3a.type.args.length ep3a, .slice Ap3a yp3a.args.length cp3a] 34))))
           have ENDN := Lib.hid (show StepU gg G S W5 _ _ from ⟨Uta', HUta.out.1, HUta.out.2, step_new (W := W5) HYP.out (Tp2a.out).size Tp3a.out Kp3a.out tp3a⟩)
           try (have END := Lib.hid (show StepU gg G S W5 _ _ from ⟨Uta', HUta.out.1, HUta.out.2, step_set (W := W5) HYP.out KSLp3a.out.1 z_W5 KSLp3a.out.2 (Nat.le_refl _) (by have := KSLp2a.out.1.lt; omega) Tp3a.out Kp3a.out tp3a⟩))
           try (have QSp3a := Lib.hid (Turn.trans Qp3a.out (free_set5b KSLp3a.out z_W5 (.int .i64 yp3a.kind) (.int .i64 yp3a.index) (.int .i64 yp3a.type.kind) (.slice Bp3a yp3a.type.args.length ep3a) (.slice Ap3a yp3a.args.length cp3a))))
           try (obtain ⟨_, _, _, _, _, f0, f1, f2, f3, f4⟩ := KSLp3a.out.1.facts5))
        | (refine step_append_ty (w := (wp1a.alloc (Obj.cells #[.int .i64 0, .int .i64 0, .int .i64 0, .slice none 0 0, .slice none 0 0] 34))) (by rfl) (.tmp 39) (.tmp 41) (by rfl) (v := vp1a) (u := _) (l := G) (m := [S]) (S := Good (· = gg) wta) (base := wta.heap.size) (by rfl) (by rfl) (Op1a.out.below (below_box wp1a (Obj.cells #[.int .i64 0, .int .i64 0, .int .i64 0, .slice none 0 0, .slice none 0 0] 34))) (src_one (Turn.blk (tAl gg _ (Obj.cells #[.int .i64 0, .int .i64 0, .int .i64 0, .slice none 0 0, .slice none 0 0] 34)) KSBp1a.out.1 (by have := KSBp1a.out.2; omega)) HSta.out (TBp1a.out.trans (tAl gg _ (Obj.cells #[.int .i64 0, .int .i64 0, .int .i64 0, .slice none 0 0, .slice none 0 0] 34))) (fun b e => (Op1a.out.lt b e).1)) (by simp; omega) ((TBp1a.out.trans (tAl gg _ (Obj.cells #[.int .i64 0, .int .i64 0, .int .i64 0, .slice none 0 0, .slice none 0 0] 34)))).size ?_
           intro vp2a wp2a op2a rp2a hp2a bp2a
           have TBp2a := Lib.hid (Turn.far (TBp1a.out.trans (tAl gg _ (Obj.cells #[.int .i64 0, .int .i64 0, .int .i64 0, .slice none 0 0, .slice none 0 0] 34))) bp2a)
           have Tp2a := Lib.hid (Tta.out.trans TBp2a.out)
           have Op2a := Lib.hid (show TyR.Own (Good (· = gg) wta) wta.heap.size vp2a (G ++ [S]) wp2a from op2a)
           have Kp2a := Lib.hid (((Deck.box Kp1a.out (Obj.cells #[.int .i64 0, .int .i64 0, .int .i64 0, .slice none 0 0, .slice none 0 0] 34))).grown rp2a (fun k e => by have := (Op1a.out.lt k e).1; omega))
           have KSLp2a := Lib.hid (And.intro (Blk.grownNe (Blk.new wp1a 34 #[.int .i64 0, .int .i64 0, .int .i64 0, .slice none 0 0, .slice none 0 0]) rp2a (own_far Op1a.out (by omega))) (show W5.heap.size ≤ wp1a.heap.size by have := Tp1a.out.size; omega))
           have Cp2a := Lib.hid (own_ctx op2a z_wta HGS.out)
           have Qp2a := Lib.hid (Turn.free (n := W5.heap.size - 1) Tp2a.out)
           have Qp2aL := Lib.hid (Turn.free (n := W5.heap.size - 1) (Tp2a.out.trans (tAl gg _ (Obj.cells #[.int .i64 0, .int .i64 0, .int .i64 0, .slice none 0 0, .slice none 0 0] 34))))
           clear op2a rp2a hp2a bp2a)
        | (refine step_append_ty (w := wp1a) (by rfl) (.tmp 39) (.tmp 41) (by rfl) (v := vp1a) (u := _) (l := G) (m := [S]) (S := Good (· = gg) wta) (base := wta.heap.size) (by rfl) (by rfl) Op1a.out (src_one KSBp1a.out.1 HSta.out TBp1a.out (fun b e => (Op1a.out.lt b e).1)) (by simp; omega) (TBp1a.out).size ?_
           intro vp2a wp2a op2a rp2a hp2a bp2a
           have TBp2a := Lib.hid (Turn.far TBp1a.out bp2a)
           have Tp2a := Lib.hid (Tta.out.trans TBp2a.out)
           have Op2a := Lib.hid (show TyR.Own (Good (· = gg) wta) wta.heap.size vp2a (G ++ [S]) wp2a from op2a)
           have Kp2a := Lib.hid ((Kp1a.out).grown rp2a (fun k e => by have := (Op1a.out.lt k e).1; omega))
           try (have KSLp2a := Lib.hid (And.intro (Blk.grownNe (Turn.blk (tRf gg wp1a) KSLp1a.out.1 (by have := KSLp1a.out.2; omega)) rp2a NELp1a.out) KSLp1a.out.2))
           have Cp2a := Lib.hid (own_ctx op2a z_wta HGS.out)
           have Qp2a := Lib.hid (Turn.free (n := W5.heap.size - 1) Tp2a.out)
           have Qp2aL := Lib.hid (Turn.free (n := W5.heap.size - 1) (Tp2a.out.trans (tAl gg _ (Obj.cells #[.int .i64 0, .int .i64 0, .int .i64 0, .slice none 0 0, .slice none 0 0] 34))))
           clear op2a rp2a hp2a bp2a)
        | (refine step_append_ty (w := ((wp1a.alloc (Obj.cells #[.int .i64 0, .int .i64 0, .int .i64 0, .slice none 0 0, .slice none 0 0] 34)).alloc (Obj.cells #[.int .i64 S.kind, .slice A4 S.args.length c4] 30))) (by rfl) (.tmp 39) (.tmp 41) (by rfl) (v := vp1a) (u := .slice (some ⟨wp1a.heap.size + 1, 0, none⟩) 1 1) (l := G) (m := [S]) (S := Good (· = gg) wta) (base := wta.heap.size) (by rfl) (by rfl) ((Op1a.out.below (below_box wp1a (Obj.cells #[.int .i64 0, .int .i64 0, .int .i64 0, .slice none 0 0, .slice none 0 0] 34))).below (below_box _ (Obj.cells #[.int .i64 S.kind, .slice A4 S.args.length c4] 30))) (src_one (blk_new1 wp1a (Obj.cells #[.int .i64 0, .int .i64 0, .int .i64 0, .slice none 0 0, .slice none 0 0] 34) #[.int .i64 S.kind, .slice A4 S.args.length c4] 30) HSta.out ((TBp1a.out.trans (tAl gg _ (Obj.cells #[.int .i64 0, .int .i64 0, .int .i64 0, .slice none 0 0, .slice none 0 0] 34))).trans (tAl gg _ (Obj.cells #[.int .i64 S.kind, .slice A4 S.args.length c4] 30))) (fun b e => (Op1a.out.lt b e).1)) (by simp; omega) (((TBp1a.out.trans (tAl gg _ (Obj.cells #[.int .i64 0, .int .i64 0, .int .i64 0, .slice none 0 0, .slice none 0 0] 34))).trans (tAl gg _ (Obj.cells #[.int .i64 S.kind, .slice A4 S.args.length c4] 30)))).size ?_
           intro vp2a wp2a op2a rp2a hp2a bp2a
           have TBp2a := Lib.hid (Turn.far ((TBp1a.out.trans (tAl gg _ (Obj.cells #[.int .i64 0, .int .i64 0, .int .i64 0, .slice none 0 0, .slice none 0 0] 34))).trans (tAl gg _ (Obj.cells #[.int .i64 S.kind, .slice A4 S.args.length c4] 30))) bp2a)
           have Tp2a := Lib.hid (Tta.out.trans TBp2a.out)
           have Op2a := Lib.hid (show TyR.Own (Good (· = gg) wta) wta.heap.size vp2a (G ++ [S]) wp2a from op2a)
           have Kp2a := Lib.hid (((Deck.box (Deck.box Kp1a.out (Obj.cells #[.int .i64 0, .int .i64 0, .int .i64 0, .slice none 0 0, .slice none 0 0] 34)) (Obj.cells #[.int .i64 S.kind, .slice A4 S.args.length c4] 30))).grown rp2a (fun k e => by have := (Op1a.out.lt k e).1; omega))
           have KSLp2a := Lib.hid (And.intro (Blk.grownNe (Turn.blk (tAl gg _ (Obj.cells #[.int .i64 S.kind, .slice A4 S.args.length c4] 30)) (Blk.new wp1a 34 #[.int .i64 0, .int .i64 0, .int .i64 0, .slice none 0 0, .slice none 0 0]) (by have := Tp1a.out.size; omega)) rp2a (own_far Op1a.out (by omega))) (show W5.heap.size ≤ wp1a.heap.size by have := Tp1a.out.size; omega))
           have Cp2a := Lib.hid (own_ctx op2a z_wta HGS.out)
           have Qp2a := Lib.hid (Turn.free (n := W5.heap.size - 1) Tp2a.out)
           have Qp2aL := Lib.hid (Turn.free (n := W5.heap.size - 1) (Tp2a.out.trans (tAl gg _ (Obj.cells #[.int .i64 0, .int .i64 0, .int .i64 0, .slice none 0 0, .slice none 0 0] 34))))
           clear op2a rp2a hp2a bp2a)
        | (refine step_append_ty (w := ((wp1a.alloc (Obj.cells #[.int .i64 S.kind, .slice A4 S.args.length c4] 30)).alloc (Obj.cells #[.int .i64 0, .int .i64 0, .int .i64 0, .slice none 0 0, .slice none 0 0] 34))) (by rfl) (.tmp 39) (.tmp 41) (by rfl) (v := vp1a) (u := .slice (some ⟨wp1a.heap.size, 0, none⟩) 1 1) (l := G) (m := [S]) (S := Good (· = gg) wta) (base := wta.heap.size) (by rfl) (by rfl) ((Op1a.out.below (below_box wp1a (Obj.cells #[.int .i64 S.kind, .slice A4 S.args.length c4] 30))).below (below_box _ (Obj.cells #[.int .i64 0, .int .i64 0, .int .i64 0, .slice none 0 0, .slice none 0 0] 34))) (src_one (Turn.blk (tAl gg _ (Obj.cells #[.int .i64 0, .int .i64 0, .int .i64 0, .slice none 0 0, .slice none 0 0] 34)) (Blk.new wp1a 30 #[.int .i64 S.kind, .slice A4 S.args.length c4]) (by have := Tp1a.out.size; omega)) HSta.out ((TBp1a.out.trans (tAl gg _ (Obj.cells #[.int .i64 S.kind, .slice A4 S.args.length c4] 30))).trans (tAl gg _ (Obj.cells #[.int .i64 0, .int .i64 0, .int .i64 0, .slice none 0 0, .slice none 0 0] 34))) (fun b e => (Op1a.out.lt b e).1)) (by simp; omega) (((TBp1a.out.trans (tAl gg _ (Obj.cells #[.int .i64 S.kind, .slice A4 S.args.length c4] 30))).trans (tAl gg _ (Obj.cells #[.int .i64 0, .int .i64 0, .int .i64 0, .slice none 0 0, .slice none 0 0] 34)))).size ?_
           intro vp2a wp2a op2a rp2a hp2a bp2a
           have TBp2a := Lib.hid (Turn.far ((TBp1a.out.trans (tAl gg _ (Obj.cells #[.int .i64 S.kind, .slice A4 S.args.length c4] 30))).trans (tAl gg _ (Obj.cells #[.int .i64 0, .int .i64 0, .int .i64 0, .slice none 0 0, .slice none 0 0] 34))) bp2a)
           have Tp2a := Lib.hid (Tta.out.trans TBp2a.out)
           have Op2a := Lib.hid (show TyR.Own (Good (· = gg) wta) wta.heap.size vp2a (G ++ [S]) wp2a from op2a)
           have Kp2a := Lib.hid (((Deck.box (Deck.box Kp1a.out (Obj.cells #[.int .i64 S.kind, .slice A4 S.args.length c4] 30)) (Obj.cells #[.int .i64 0, .int .i64 0, .int .i64 0, .slice none 0 0, .slice none 0 0] 34))).grown rp2a (fun k e => by have := (Op1a.out.lt k e).1; omega))
           have KSLp2a := Lib.hid (And.intro (Blk.grownNe (blk_new1 wp1a (Obj.cells #[.int .i64 S.kind, .slice A4 S.args.length c4] 30) #[.int .i64 0, .int .i64 0, .int .i64 0, .slice none 0 0, .slice none 0 0] 34) rp2a (own_far Op1a.out (by omega))) (show W5.heap.size ≤ wp1a.heap.size + 1 by have := Tp1a.out.size; omega))
           have Cp2a := Lib.hid (own_ctx op2a z_wta HGS.out)
           have Qp2a := Lib.hid (Turn.free (n := W5.heap.size - 1) Tp2a.out)
           have Qp2aL := Lib.hid (Turn.free (n := W5.heap.size - 1) (Tp2a.out.trans (tAl gg _ (Obj.cells #[.int .i64 0, .int .i64 0, .int .i64 0, .slice none 0 0, .slice none 0 0] 34))))
           clear op2a rp2a hp2a bp2a)
        | (refine step_append_ty (w := (wp1a.alloc (Obj.cells #[.int .i64 S.kind, .slice A4 S.args.length c4] 30))) (by rfl) (.tmp 39) (.tmp 41) (by rfl) (v := vp1a) (u := .slice (some ⟨wp1a.heap.size, 0, none⟩) 1 1) (l := G) (m := [S]) (S := Good (· = gg) wta) (base := wta.heap.size) (by rfl) (by rfl) (Op1a.out.below (below_box wp1a (Obj.cells #[.int .i64 S.kind, .slice A4 S.args.length c4] 30))) (src_one (Blk.new wp1a 30 #[.int .i64 S.kind, .slice A4 S.args.length c4]) HSta.out (TBp1a.out.trans (tAl gg _ (Obj.cells #[.int .i64 S.kind, .slice A4 S.args.length c4] 30))) (fun b e => (Op1a.out.lt b e).1)) (by simp; omega) ((TBp1a.out.trans (tAl gg _ (Obj.cells #[.int .i64 S.kind, .slice A4 S.args.length c4] 30)))).size ?_
           intro vp2a wp2a op2a rp2a hp2a bp2a
           have TBp2a := Lib.hid (Turn.far (TBp1a.out.trans (tAl gg _ (Obj.cells #[.int .i64 S.kind, .slice A4 S.args.length c4] 30))) bp2a)
           have Tp2a := Lib.hid (Tta.out.trans TBp2a.out)
           have Op2a := Lib.hid (show TyR.Own (Good (· = gg) wta) wta.heap.size vp2a (G ++ [S]) wp2a from op2a)
           have Kp2a := Lib.hid (((Deck.box Kp1a.out (Obj.cells #[.int .i64 S.kind, .slice A4 S.args.length c4] 30))).grown rp2a (fun k e => by have := (Op1a.out.lt k e).1; omega))
           try (have KSLp2a := Lib.hid (And.intro (Blk.grownNe (Turn.blk (tAl gg _ (Obj.cells #[.int .i64 S.kind, .slice A4 S.args.length c4] 30)) KSLp1a.out.1 (by have := KSLp1a.out.2; omega)) rp2a NELp1a.out) KSLp1a.out.2))
           have Cp2a := Lib.hid (own_ctx op2a z_wta HGS.out)
           have Qp2a := Lib.hid (Turn.free (n := W5.heap.size - 1) Tp2a.out)
           have Qp2aL := Lib.hid (Turn.free (n := W5.heap.size - 1) (Tp2a.out.trans (tAl gg _ (Obj.cells #[.int .i64 0, .int .i64 0, .int .i64 0, .slice none 0 0, .slice none 0 0] 34))))
           clear op2a rp2a hp2a bp2a)
        | (refine step_append_ty (w := ((wta.alloc (Obj.cells #[.int .i64 0, .int .i64 0, .int .i64 0, .slice none 0 0, .slice none 0 0] 34)).alloc (Obj.cells #[.int .i64 S.kind, .slice A4 S.args.length c4] 30))) (by rfl) (.const (.slice none 0 0)) (.tmp 38) (by rfl) (v := .slice none 0 0) (u := .slice A3 G.length c3) (l := []) (m := G) (S := Good (· = gg) wta) (base := wta.heap.size) (by rfl) (by rfl) (Rep.Own.nil (R := TyR) _ _ _) (src_ctx HCta.out ((tAl gg _ (Obj.cells #[.int .i64 0, .int .i64 0, .int .i64 0, .slice none 0 0, .slice none 0 0] 34)).trans (tAl gg _ (Obj.cells #[.int .i64 S.kind, .slice A4 S.args.length c4] 30))) (by simp [Value.ownBlock])) (by simp; omega) (((tAl gg _ (Obj.cells #[.int .i64 0, .int .i64 0, .int .i64 0, .slice none 0 0, .slice none 0 0] 34)).trans (tAl gg _ (Obj.cells #[.int .i64 S.kind, .slice A4 S.args.length c4] 30)))).size ?_
           intro vp1a wp1a op1a rp1a hp1a bp1a
           have TBp1a := Lib.hid (Turn.far ((tAl gg _ (Obj.cells #[.int .i64 0, .int .i64 0, .int .i64 0, .slice none 0 0, .slice none 0 0] 34)).trans (tAl gg _ (Obj.cells #[.int .i64 S.kind, .slice A4 S.args.length c4] 30))) bp1a)
           have Tp1a := Lib.hid (Tta.out.trans TBp1a.out)
           have Op1a := Lib.hid (show TyR.Own (Good (· = gg) wta) wta.heap.size vp1a ([] ++ G) wp1a from op1a)
           have Kp1a := Lib.hid (((Deck.box (Deck.box Kta.out (Obj.cells #[.int .i64 0, .int .i64 0, .int .i64 0, .slice none 0 0, .slice none 0 0] 34)) (Obj.cells #[.int .i64 S.kind, .slice A4 S.args.length c4] 30))).grown rp1a (by simp [Value.ownBlock]))
           have KSBp1a := Lib.hid (And.intro (Blk.grownNe (blk_new1 wta (Obj.cells #[.int .i64 0, .int .i64 0, .int .i64 0, .slice none 0 0, .slice none 0 0] 34) #[.int .i64 S.kind, .slice A4 S.args.length c4] 30) rp1a (by simp [Value.ownBlock])) (show W5.heap.size ≤ wta.heap.size + 1 by have := Tta.out.size; omega))
           have NEBp1a := Lib.hid (own_ne hp1a rfl (show wta.heap.size + 1 < _ by simp <;> omega))
           have KSLp1a := Lib.hid (And.intro (Blk.grownNe (Turn.blk (tAl gg _ (Obj.cells #[.int .i64 S.kind, .slice A4 S.args.length c4] 30)) (Blk.new wta 34 #[.int .i64 0, .int .i64 0, .int .i64 0, .slice none 0 0, .slice none 0 0]) (by have := Tta.out.size; omega)) rp1a (by simp [Value.ownBlock])) (show W5.heap.size ≤ wta.heap.size by have := Tta.out.size; omega))
           have NELp1a := Lib.hid (own_ne hp1a rfl (show wta.heap.size < _ by simp <;> omega))
           have Qp1a := Lib.hid (Turn.free (n := W5.heap.size - 1) Tp1a.out)
           have Qp1aB := Lib.hid (Turn.free (n := W5.heap.size - 1) (Tp1a.out.trans (tAl gg _ (Obj.cells #[.int .i64 S.kind, .slice A4 S.args.length c4] 30))))
           have Qp1aL := Lib.hid (Turn.free (n := W5.heap.size - 1) (Tp1a.out.trans (tAl gg _ (Obj.cells #[.int .i64 0, .int .i64 0, .int .i64 0, .slice none 0 0, .slice none 0 0] 34))))
           have Qp1aBL := Lib.hid (Turn.free (n := W5.heap.size - 1) ((Tp1a.out.trans (tAl gg _ (Obj.cells #[.int .i64 S.kind, .slice A4 S.args.length c4] 30))).trans (tAl gg _ (Obj.cells #[.int .i64 0, .int .i64 0, .int .i64 0, .slice none 0 0, .slice none 0 0] 34))))
           have Qp1aLB := Lib.hid (Turn.free (n := W5.heap.size - 1) ((Tp1a.out.trans (tAl gg _ (Obj.cells #[.int .i64 0, .int .i64 0, .int .i64 0, .slice none 0 0, .slice none 0 0] 34))).trans (tAl gg _ (Obj.cells #[.int .i64 S.kind, .slice A4 S.args.length c4] 30))))
           clear op1a rp1a hp1a bp1a)
        | (refine step_append_ty (w := ((wta.alloc (Obj.cells #[.int .i64 S.kind, .slice A4 S.args.length c4] 30)).alloc (Obj.cells #[.int .i64 0, .int .i64 0, .int .i64 0, .slice none 0 0, .slice none 0 0] 34))) (by rfl) (.const (.slice none 0 0)) (.tmp 38) (by rfl) (v := .slice none 0 0) (u := .slice A3 G.length c3) (l := []) (m := G) (S := Good (· = gg) wta) (base := wta.heap.size) (by rfl) (by rfl) (Rep.Own.nil (R := TyR) _ _ _) (src_ctx HCta.out ((tAl gg _ (Obj.cells #[.int .i64 S.kind, .slice A4 S.args.length c4] 30)).trans (tAl gg _ (Obj.cells #[.int .i64 0, .int .i64 0, .int .i64 0, .slice none 0 0, .slice none 0 0] 34))) (by simp [Value.ownBlock])) (by simp; omega) (((tAl gg _ (Obj.cells #[.int .i64 S.kind, .slice A4 S.args.length c4] 30)).trans (tAl gg _ (Obj.cells #[.int .i64 0, .int .i64 0, .int .i64 0, .slice none 0 0, .slice none 0 0] 34)))).size ?_
           intro vp1a wp1a op1a rp1a hp1a bp1a
           have TBp1a := Lib.hid (Turn.far ((tAl gg _ (Obj.cells #[.int .i64 S.kind, .slice A4 S.args.length c4] 30)).trans (tAl gg _ (Obj.cells #[.int .i64 0, .int .i64 0, .int .i64 0, .slice none 0 0, .slice none 0 0] 34))) bp1a)
           have Tp1a := Lib.hid (Tta.out.trans TBp1a.out)
           have Op1a := Lib.hid (show TyR.Own (Good (· = gg) wta) wta.heap.size vp1a ([] ++ G) wp1a from op1a)
           have Kp1a := Lib.hid (((Deck.box (Deck.box Kta.out (Obj.cells #[.int .i64 S.kind, .slice A4 S.args.length c4] 30)) (Obj.cells #[.int .i64 0, .int .i64 0, .int .i64 0, .slice none 0 0, .slice none 0 0] 34))).grown rp1a (by simp [Value.ownBlock]))
           have KSBp1a := Lib.hid (And.intro (Blk.grownNe (Turn.blk (tAl gg _ (Obj.cells #[.int .i64 0, .int .i64 0, .int .i64 0, .slice none 0 0, .slice none 0 0] 34)) (Blk.new wta 30 #[.int .i64 S.kind, .slice A4 S.args.length c4]) (by have := Tta.out.size; omega)) rp1a (by simp [Value.ownBlock])) (show W5.heap.size ≤ wta.heap.size by have := Tta.out.size; omega))
           have NEBp1a := Lib.hid (own_ne hp1a rfl (show wta.heap.size < _ by simp <;> omega))
           have KSLp1a := Lib.hid (And.intro (Blk.grownNe (blk_new1 wta (Obj.cells #[.int .i64 S.kind, .slice A4 S.args.length c4] 30) #[.int .i64 0, .int .i64 0, .int .i64 0, .slice none 0 0, .slice none 0 0] 34) rp1a (by simp [Value.ownBlock])) (show W5.heap.size ≤ wta.heap.size + 1 by have := Tta.out.size; omega))
           have NELp1a := Lib.hid (own_ne hp1a rfl (show wta.heap.size + 1 < _ by simp <;> omega))
           have Qp1a := Lib.hid (Turn.free (n := W5.heap.size - 1) Tp1a.out)
           have Qp1aB := Lib.hid (Turn.free (n := W5.heap.size - 1) (Tp1a.out.trans (tAl gg _ (Obj.cells #[.int .i64 S.kind, .slice A4 S.args.length c4] 30))))
           have Qp1aL := Lib.hid (Turn.free (n := W5.heap.size - 1) (Tp1a.out.trans (tAl gg _ (Obj.cells #[.int .i64 0, .int .i64 0, .int .i64 0, .slice none 0 0, .slice none 0 0] 34))))
           have Qp1aBL := Lib.hid (Turn.free (n := W5.heap.size - 1) ((Tp1a.out.trans (tAl gg _ (Obj.cells #[.int .i64 S.kind, .slice A4 S.args.length c4] 30))).trans (tAl gg _ (Obj.cells #[.int .i64 0, .int .i64 0, .int .i64 0, .slice none 0 0, .slice none 0 0] 34))))
           have Qp1aLB := Lib.hid (Turn.free (n := W5.heap.size - 1) ((Tp1a.out.trans (tAl gg _ (Obj.cells #[.int .i64 0, .int .i64 0, .int .i64 0, .slice none 0 0, .slice none 0 0] 34))).trans (tAl gg _ (Obj.cells #[.int .i64 S.kind, .slice A4 S.args.length c4] 30))))
           clear op1a rp1a hp1a bp1a)
        | (refine step_append_ty (w := (wta.alloc (Obj.cells #[.int .i64 0, .int .i64 0, .int .i64 0, .slice none 0 0, .slice none 0 0] 34))) (by rfl) (.const (.slice none 0 0)) (.tmp 38) (by rfl) (v := .slice none 0 0) (u := .slice A3 G.length c3) (l := []) (m := G) (S := Good (· = gg) wta) (base := wta.heap.size) (by rfl) (by rfl) (Rep.Own.nil (R := TyR) _ _ _) (src_ctx HCta.out (tAl gg _ (Obj.cells #[.int .i64 0, .int .i64 0, .int .i64 0, .slice none 0 0, .slice none 0 0] 34)) (by simp [Value.ownBlock])) (by simp; omega) ((tAl gg _ (Obj.cells #[.int .i64 0, .int .i64 0, .int .i64 0, .slice none 0 0, .slice none 0 0] 34))).size ?_
           intro vp1a wp1a op1a rp1a hp1a bp1a
           have TBp1a := Lib.hid (Turn.far (tAl gg _ (Obj.cells #[.int .i64 0, .int .i64 0, .int .i64 0, .slice none 0 0, .slice none 0 0] 34)) bp1a)
           have Tp1a := Lib.hid (Tta.out.trans TBp1a.out)
           have Op1a := Lib.hid (show TyR.Own (Good (· = gg) wta) wta.heap.size vp1a ([] ++ G) wp1a from op1a)
           have Kp1a := Lib.hid (((Deck.box Kta.out (Obj.cells #[.int .i64 0, .int .i64 0, .int .i64 0, .slice none 0 0, .slice none 0 0] 34))).grown rp1a (by simp [Value.ownBlock]))
           try (have KSBp1a := Lib.hid (And.intro (Blk.grownNe (Turn.blk (tAl gg _ (Obj.cells #[.int .i64 0, .int .i64 0, .int .i64 0, .slice none 0 0, .slice none 0 0] 34)) KSBta.out.1 (by have := KSBta.out.2; omega)) rp1a (by simp [Value.ownBlock])) KSBta.out.2))
           try (have NEBp1a := Lib.hid (own_ne hp1a rfl (Nat.lt_of_lt_of_le KSBta.out.1.lt (by simp <;> omega))))
           have KSLp1a := Lib.hid (And.intro (Blk.grownNe (Blk.new wta 34 #[.int .i64 0, .int .i64 0, .int .i64 0, .slice none 0 0, .slice none 0 0]) rp1a (by simp [Value.ownBlock])) (show W5.heap.size ≤ wta.heap.size by have := Tta.out.size; omega))
           have NELp1a := Lib.hid (own_ne hp1a rfl (show wta.heap.size < _ by simp <;> omega))
           have Qp1a := Lib.hid (Turn.free (n := W5.heap.size - 1) Tp1a.out)
           have Qp1aB := Lib.hid (Turn.free (n := W5.heap.size - 1) (Tp1a.out.trans (tAl gg _ (Obj.cells #[.int .i64 S.kind, .slice A4 S.args.length c4] 30))))
           have Qp1aL := Lib.hid (Turn.free (n := W5.heap.size - 1) (Tp1a.out.trans (tAl gg _ (Obj.cells #[.int .i64 0, .int .i64 0, .int .i64 0, .slice none 0 0, .slice none 0 0] 34))))
           have Qp1aBL := Lib.hid (Turn.free (n := W5.heap.size - 1) ((Tp1a.out.trans (tAl gg _ (Obj.cells #[.int .i64 S.kind, .slice A4 S.args.length c4] 30))).trans (tAl gg _ (Obj.cells #[.int .i64 0, .int .i64 0, .int .i64 0, .slice none 0 0, .slice none 0 0] 34))))
           have Qp1aLB := Lib.hid (Turn.free (n := W5.heap.size - 1) ((Tp1a.out.trans (tAl gg _ (Obj.cells #[.int .i64 0, .int .i64 0, .int .i64 0, .slice none 0 0, .slice none 0 0] 34))).trans (tAl gg _ (Obj.cells #[.int .i64 S.kind, .slice A4 S.args.length c4] 30))))
           clear op1a rp1a hp1a bp1a)
        | (refine step_append_ty (w := (wta.alloc (Obj.cells #[.int .i64 S.kind, .slice A4 S.args.length c4] 30))) (by rfl) (.const (.slice none 0 0)) (.tmp 38) (by rfl) (v := .slice none 0 0) (u := .slice A3 G.length c3) (l := []) (m := G) (S := Good (· = gg) wta) (base := wta.heap.size) (by rfl) (by rfl) (Rep.Own.nil (R := TyR) _ _ _) (src_ctx HCta.out (tAl gg _ (Obj.cells #[.int .i64 S.kind, .slice A4 S.args.length c4] 30)) (by simp [Value.ownBlock])) (by simp; omega) ((tAl gg _ (Obj.cells #[.int .i64 S.kind, .slice A4 S.args.length c4] 30))).size ?_
           intro vp1a wp1a op1a rp1a hp1a bp1a
           have TBp1a := Lib.hid (Turn.far (tAl gg _ (Obj.cells #[.int .i64 S.kind, .slice A4 S.args.length c4] 30)) bp1a)
           have Tp1a := Lib.hid (Tta.out.trans TBp1a.out)
           have Op1a := Lib.hid (show TyR.Own (Good (· = gg) wta) wta.heap.size vp1a ([] ++ G) wp1a from op1a)
           have Kp1a := Lib.hid (((Deck.box Kta.out (Obj.cells #[.int .i64 S.kind, .slice A4 S.args.length c4] 30))).grown rp1a (by simp [Value.ownBlock]))
           have KSBp1a := Lib.hid (And.intro (Blk.grownNe (Blk.new wta 30 #[.int .i64 S.kind, .slice A4 S.args.length c4]) rp1a (by simp [Value.ownBlock])) (show W5.heap.size ≤ wta.heap.size by have := Tta.out.size; omega))
           have NEBp1a := Lib.hid (own_ne hp1a rfl (show wta.heap.size < _ by simp <;> omega))
           try (have KSLp1a := Lib.hid (And.intro (Blk.grownNe (Turn.blk (tAl gg _ (Obj.cells #[.int .i64 S.kind, .slice A4 S.args.length c4] 30)) KSLta.out.1 (by have := KSLta.out.2; omega)) rp1a (by simp [Value.ownBlock])) KSLta.out.2))
           try (have NELp1a := Lib.hid (own_ne hp1a rfl (Nat.lt_of_lt_of_le KSLta.out.1.lt (by simp <;> omega))))
           have Qp1a := Lib.hid (Turn.free (n := W5.heap.size - 1) Tp1a.out)
           have Qp1aB := Lib.hid (Turn.free (n := W5.heap.size - 1) (Tp1a.out.trans (tAl gg _ (Obj.cells #[.int .i64 S.kind, .slice A4 S.args.length c4] 30))))
           have Qp1aL := Lib.hid (Turn.free (n := W5.heap.size - 1) (Tp1a.out.trans (tAl gg _ (Obj.cells #[.int .i64 0, .int .i64 0, .int .i64 0, .slice none 0 0, .slice none 0 0] 34))))
           have Qp1aBL := Lib.hid (Turn.free (n := W5.heap.size - 1) ((Tp1a.out.trans (tAl gg _ (Obj.cells #[.int .i64 S.kind, .slice A4 S.args.length c4] 30))).trans (tAl gg _ (Obj.cells #[.int .i64 0, .int .i64 0, .int .i64 0, .slice none 0 0, .slice none 0 0] 34))))
           have Qp1aLB := Lib.hid (Turn.free (n := W5.heap.size - 1) ((Tp1a.out.trans (tAl gg _ (Obj.cells #[.int .i64 0, .int .i64 0, .int .i64 0, .slice none 0 0, .slice none 0 0] 34))).trans (tAl gg _ (Obj.cells #[.int .i64 S.kind, .slice A4 S.args.length c4] 30))))
           clear op1a rp1a hp1a bp1a)
        | (refine step_append_ty (w := wta) (by rfl) (.const (.slice none 0 0)) (.tmp 38) (by rfl) (v := .slice none 0 0) (u := .slice A3 G.length c3) (l := []) (m := G) (S := Good (· = gg) wta) (base := wta.heap.size) (by rfl) (by rfl) (Rep.Own.nil (R := TyR) _ _ _) (src_ctx HCta.out (tRf gg wta) (by simp [Value.ownBlock])) (by simp; omega) ((tRf gg wta)).size ?_
           intro vp1a wp1a op1a rp1a hp1a bp1a
           have TBp1a := Lib.hid (Turn.far (tRf gg wta) bp1a)
           have Tp1a := Lib.hid (Tta.out.trans TBp1a.out)
           have Op1a := Lib.hid (show TyR.Own (Good (· = gg) wta) wta.heap.size vp1a ([] ++ G) wp1a from op1a)
           have Kp1a := Lib.hid ((Kta.out).grown rp1a (by simp [Value.ownBlock]))
           try (have KSBp1a := Lib.hid (And.intro (Blk.grownNe (Turn.blk (tRf gg wta) KSBta.out.1 (by have := KSBta.out.2; omega)) rp1a (by simp [Value.ownBlock])) KSBta.out.2))
           try (have NEBp1a := Lib.hid (own_ne hp1a rfl (Nat.lt_of_lt_of_le KSBta.out.1.lt (by simp <;> omega))))
           try (have KSLp1a := Lib.hid (And.intro (Blk.grownNe (Turn.blk (tRf gg wta) KSLta.out.1 (by have := KSLta.out.2; omega)) rp1a (by simp [Value.ownBlock])) KSLta.out.2))
           try (have NELp1a := Lib.hid (own_ne hp1a rfl (Nat.lt_of_lt_of_le KSLta.out.1.lt (by simp <;> omega))))
           have Qp1a := Lib.hid (Turn.free (n := W5.heap.size - 1) Tp1a.out)
           have Qp1aB := Lib.hid (Turn.free (n := W5.heap.size - 1) (Tp1a.out.trans (tAl gg _ (Obj.cells #[.int .i64 S.kind, .slice A4 S.args.length c4] 30))))
           have Qp1aL := Lib.hid (Turn.free (n := W5.heap.size - 1) (Tp1a.out.trans (tAl gg _ (Obj.cells #[.int .i64 0, .int .i64 0, .int .i64 0, .slice none 0 0, .slice none 0 0] 34))))
           have Qp1aBL := Lib.hid (Turn.free (n := W5.heap.size - 1) ((Tp1a.out.trans (tAl gg _ (Obj.cells #[.int .i64 S.kind, .slice A4 S.args.length c4] 30))).trans (tAl gg _ (Obj.cells #[.int .i64 0, .int .i64 0, .int .i64 0, .slice none 0 0, .slice none 0 0] 34))))
           have Qp1aLB := Lib.hid (Turn.free (n := W5.heap.size - 1) ((Tp1a.out.trans (tAl gg _ (Obj.cells #[.int .i64 0, .int .i64 0, .int .i64 0, .slice none 0 0, .slice none 0 0] 34))).trans (tAl gg _ (Obj.cells #[.int .i64 S.kind, .slice A4 S.args.length c4] 30))))
           clear op1a rp1a hp1a bp1a)
        | (go_at_call 12
           have Pta := type_any 1 1 gg ((W5.alloc (Obj.cells #[.int .i64 0, .int .i64 0, .int .i64 0, .slice none 0 0, .slice none 0 0] 34)).alloc (Obj.cells #[.int .i64 S.kind, .slice A4 S.args.length c4] 30)).drew (by omega) (by omega) (by omega) (Deck.drewd (Deck.box (Deck.box D_W5.out (Obj.cells #[.int .i64 0, .int .i64 0, .int .i64 0, .slice none 0 0, .slice none 0 0] 34)) (Obj.cells #[.int .i64 S.kind, .slice A4 S.args.length c4] 30)))
           (with_reducible refine Pta.mono ?_)
           rintro e wta ⟨Uta', xta, rfl, okta, szta, tyta, dta, uta⟩
           clear Pta
           have Tta := Lib.hid ((((tAl gg _ (Obj.cells #[.int .i64 0, .int .i64 0, .int .i64 0, .slice none 0 0, .slice none 0 0] 34)).trans (tAl gg _ (Obj.cells #[.int .i64 S.kind, .slice A4 S.args.length c4] 30))).trans (tDr gg _)).trans (turn_of uta))
           have Uta := Lib.hid ((((tAl gg _ (Obj.cells #[.int .i64 0, .int .i64 0, .int .i64 0, .slice none 0 0, .slice none 0 0] 34)).trans (tAl gg _ (Obj.cells #[.int .i64 S.kind, .slice A4 S.args.length c4] 30))).trans (tDr gg _)).trans (turn_of uta))
           obtain ⟨Ata, cta, rfl⟩ := tyta.form
           have Kta := Lib.hid dta
           have Ita := Lib.hid tyta
           have Zta := Lib.hid ((Deck.drewd (Deck.box (Deck.box D_W5.out (Obj.cells #[.int .i64 0, .int .i64 0, .int .i64 0, .slice none 0 0, .slice none 0 0] 34)) (Obj.cells #[.int .i64 S.kind, .slice A4 S.args.length c4] 30)))).lt
           have HUta := Lib.hid (show Uta'.ok = true ∧ Uta'.nodes ≤ 3 from And.intro okta (type_three szta))
           have YUta := Lib.hid (Typ.of tyta ((Deck.drewd (Deck.box (Deck.box D_W5.out (Obj.cells #[.int .i64 0, .int .i64 0, .int .i64 0, .slice none 0 0, .slice none 0 0] 34)) (Obj.cells #[.int .i64 S.kind, .slice A4 S.args.length c4] 30)))).lt)
           have KSBta := Lib.hid (And.intro (Turn.blk (((tDr gg _).trans (turn_of uta))) (blk_new1 W5 (Obj.cells #[.int .i64 0, .int .i64 0, .int .i64 0, .slice none 0 0, .slice none 0 0] 34) #[.int .i64 S.kind, .slice A4 S.args.length c4] 30) (by have := (Nat.le_refl W5.heap.size); omega)) (show W5.heap.size ≤ W5.heap.size + 1 by have := (Nat.le_refl W5.heap.size); omega))
           have KSLta := Lib.hid (And.intro (Turn.blk ((((tAl gg _ (Obj.cells #[.int .i64 S.kind, .slice A4 S.args.length c4] 30)).trans (tDr gg _)).trans (turn_of uta))) (Blk.new W5 34 #[.int .i64 0, .int .i64 0, .int .i64 0, .slice none 0 0, .slice none 0 0]) (by have := (Nat.le_refl W5.heap.size); omega)) (show W5.heap.size ≤ W5.heap.size by have := (Nat.le_refl W5.heap.size); omega))
           have Qta := Lib.hid (Turn.free (n := W5.heap.size - 1) Tta.out)
           have QtaB := Lib.hid (Turn.free (n := W5.heap.size - 1) (Tta.out.trans (tAl gg _ (Obj.cells #[.int .i64 S.kind, .slice A4 S.args.length c4] 30))))
           have QtaL := Lib.hid (Turn.free (n := W5.heap.size - 1) (Tta.out.trans (tAl gg _ (Obj.cells #[.int .i64 0, .int .i64 0, .int .i64 0, .slice none 0 0, .slice none 0 0] 34))))
           have QtaBL := Lib.hid (Turn.free (n := W5.heap.size - 1) ((Tta.out.trans (tAl gg _ (Obj.cells #[.int .i64 S.kind, .slice A4 S.args.length c4] 30))).trans (tAl gg _ (Obj.cells #[.int .i64 0, .int .i64 0, .int .i64 0, .slice none 0 0, .slice none 0 0] 34))))
           have QtaLB := Lib.hid (Turn.free (n := W5.heap.size - 1) ((Tta.out.trans (tAl gg _ (Obj.cells #[.int .i64 0, .int .i64 0, .int .i64 0, .slice none 0 0, .slice none 0 0] 34))).trans (tAl gg _ (Obj.cells #[.int .i64 S.kind, .slice A4 S.args.length c4] 30))))
           clear tyta okta szta dta uta
           have HCta := Lib.hid (Ctx.turn HC5.out Tta.out)
           have HSta := Lib.hid (Typ.turn HS5.out Tta.out)
           have z_wta : gg < wta.heap.size := Kta.out.lt)
        | (go_at_call 12
           have Pta := type_any 1 1 gg ((W5.alloc (Obj.cells #[.int .i64 S.kind, .slice A4 S.args.length c4] 30)).alloc (Obj.cells #[.int .i64 0, .int .i64 0, .int .i64 0, .slice none 0 0, .slice none 0 0] 34)).drew (by omega) (by omega) (by omega) (Deck.drewd (Deck.box (Deck.box D_W5.out (Obj.cells #[.int .i64 S.kind, .slice A4 S.args.length c4] 30)) (Obj.cells #[.int .i64 0, .int .i64 0, .int .i64 0, .slice none 0 0, .slice none 0 0] 34)))
           (with_reducible refine Pta.mono ?_)
           rintro e wta ⟨Uta', xta, rfl, okta, szta, tyta, dta, uta⟩
           clear Pta
           have Tta := Lib.hid ((((tAl gg _ (Obj.cells #[.int .i64 S.kind, .slice A4 S.args.length c4] 30)).trans (tAl gg _ (Obj.cells #[.int .i64 0, .int .i64 0, .int .i64 0, .slice none 0 0, .slice none 0 0] 34))).trans (tDr gg _)).trans (turn_of uta))
           have Uta := Lib.hid ((((tAl gg _ (Obj.cells #[.int .i64 S.kind, .slice A4 S.args.length c4] 30)).trans (tAl gg _ (Obj.cells #[.int .i64 0, .int .i64 0, .int .i64 0, .slice none 0 0, .slice none 0 0] 34))).trans (tDr gg _)).trans (turn_of uta))
           obtain ⟨Ata, cta, rfl⟩ := tyta.form
           have Kta := Lib.hid dta
           have Ita := Lib.hid tyta
           have Zta := Lib.hid ((Deck.drewd (Deck.box (Deck.box D_W5.out (Obj.cells #[.int .i64 S.kind, .slice A4 S.args.length c4] 30)) (Obj.cells #[.int .i64 0, .int .i64 0, .int .i64 0, .slice none 0 0, .slice none 0 0] 34)))).lt
           have HUta := Lib.hid (show Uta'.ok = true ∧ Uta'.nodes ≤ 3 from And.intro okta (type_three szta))
           have YUta := Lib.hid (Typ.of tyta ((Deck.drewd (Deck.box (Deck.box D_W5.out (Obj.cells #[.int .i64 S.kind, .slice A4 S.args.length c4] 30)) (Obj.cells #[.int .i64 0, .int .i64 0, .int .i64 0, .slice none 0 0, .slice none 0 0] 34)))).lt)
           have KSBta := Lib.hid (And.intro (Turn.blk ((((tAl gg _ (Obj.cells #[.int .i64 0, .int .i64 0, .int .i64 0, .slice none 0 0, .slice none 0 0] 34)).trans (tDr gg _)).trans (turn_of uta))) (Blk.new W5 30 #[.int .i64 S.kind, .slice A4 S.args.length c4]) (by have := (Nat.le_refl W5.heap.size); omega)) (show W5.heap.size ≤ W5.heap.size by have := (Nat.le_refl W5.heap.size); omega))
           have KSLta := Lib.hid (And.intro (Turn.blk (((tDr gg _).trans (turn_of uta))) (blk_new1 W5 (Obj.cells #[.int .i64 S.kind, .slice A4 S.args.length c4] 30) #[.int .i64 0, .int .i64 0, .int .i64 0, .slice none 0 0, .slice none 0 0] 34) (by have := (Nat.le_refl W5.heap.size); omega)) (show W5.heap.size ≤ W5.heap.size + 1 by have := (Nat.le_refl W5.heap.size); omega))
           have Qta := Lib.hid (Turn.free (n := W5.heap.size - 1) Tta.out)
           have QtaB := Lib.hid (Turn.free (n := W5.heap.size - 1) (Tta.out.trans (tAl gg _ (Obj.cells #[.int .i64 S.kind, .slice A4 S.args.length c4] 30))))
           have QtaL := Lib.hid (Turn.free (n := W5.heap.size - 1) (Tta.out.trans (tAl gg _ (Obj.cells #[.int .i64 0, .int .i64 0, .int .i64 0, .slice none 0 0, .slice none 0 0] 34))))
           have QtaBL := Lib.hid (Turn.free (n := W5.heap.size - 1) ((Tta.out.trans (tAl gg _ (Obj.cells #[.int .i64 S.kind, .slice A4 S.args.length c4] 30))).trans (tAl gg _ (Obj.cells #[.int .i64 0, .int .i64 0, .int .i64 0, .slice none 0 0, .slice none 0 0] 34))))
           have QtaLB := Lib.hid (Turn.free (n := W5.heap.size - 1) ((Tta.out.trans (tAl gg _ (Obj.cells #[.int .i64 0, .int .i64 0, .int .i64 0, .slice none 0 0, .slice none 0 0] 34))).trans (tAl gg _ (Obj.cells #[.int .i64 S.kind, .slice A4 S.args.length c4] 30))))
           clear tyta okta szta dta uta
           have HCta := Lib.hid (Ctx.turn HC5.out Tta.out)
           have HSta := Lib.hid (Typ.turn HS5.out Tta.out)
           have z_wta : gg < wta.heap.size := Kta.out.lt)
        | (go_at_call 12
           have Pta := type_any 1 1 gg (W5.alloc (Obj.cells #[.int .i64 0, .int .i64 0, .int .i64 0, .slice none 0 0, .slice none 0 0] 34)).drew (by omega) (by omega) (by omega) (Deck.drewd (Deck.box D_W5.out (Obj.cells #[.int .i64 0, .int .i64 0, .int .i64 0, .slice none 0 0, .slice none 0 0] 34)))
           (with_reducible refine Pta.mono ?_)
           rintro e wta ⟨Uta', xta, rfl, okta, szta, tyta, dta, uta⟩
           clear Pta
           have Tta := Lib.hid (((tAl gg _ (Obj.cells #[.int .i64 0, .int .i64 0, .int .i64 0, .slice none 0 0, .slice none 0 0] 34)).trans (tDr gg _)).trans (turn_of uta))
           have Uta := Lib.hid (((tAl gg _ (Obj.cells #[.int .i64 0, .int .i64 0, .int .i64 0, .slice none 0 0, .slice none 0 0] 34)).trans (tDr gg _)).trans (turn_of uta))
           obtain ⟨Ata, cta, rfl⟩ := tyta.form
           have Kta := Lib.hid dta
           have Ita := Lib.hid tyta
           have Zta := Lib.hid ((Deck.drewd (Deck.box D_W5.out (Obj.cells #[.int .i64 0, .int .i64 0, .int .i64 0, .slice none 0 0, .slice none 0 0] 34)))).lt
           have HUta := Lib.hid (show Uta'.ok = true ∧ Uta'.nodes ≤ 3 from And.intro okta (type_three szta))
           have YUta := Lib.hid (Typ.of tyta ((Deck.drewd (Deck.box D_W5.out (Obj.cells #[.int .i64 0, .int .i64 0, .int .i64 0, .slice none 0 0, .slice none 0 0] 34)))).lt)
           have KSLta := Lib.hid (And.intro (Turn.blk (((tDr gg _).trans (turn_of uta))) (Blk.new W5 34 #[.int .i64 0, .int .i64 0, .int .i64 0, .slice none 0 0, .slice none 0 0]) (by have := (Nat.le_refl W5.heap.size); omega)) (show W5.heap.size ≤ W5.heap.size by have := (Nat.le_refl W5.heap.size); omega))
           have Qta := Lib.hid (Turn.free (n := W5.heap.size - 1) Tta.out)
           have QtaB := Lib.hid (Turn.free (n := W5.heap.size - 1) (Tta.out.trans (tAl gg _ (Obj.cells #[.int .i64 S.kind, .slice A4 S.args.length c4] 30))))
           have QtaL := Lib.hid (Turn.free (n := W5.heap.size - 1) (Tta.out.trans (tAl gg _ (Obj.cells #[.int .i64 0, .int .i64 0, .int .i64 0, .slice none 0 0, .slice none 0 0] 34))))
           have QtaBL := Lib.hid (Turn.free (n := W5.heap.size - 1) ((Tta.out.trans (tAl gg _ (Obj.cells #[.int .i64 S.kind, .slice A4 S.args.length c4] 30))).trans (tAl gg _ (Obj.cells #[.int .i64 0, .int .i64 0, .int .i64 0, .slice none 0 0, .slice none 0 0] 34))))
           have QtaLB := Lib.hid (Turn.free (n := W5.heap.size - 1) ((Tta.out.trans (tAl gg _ (Obj.cells #[.int .i64 0, .int .i64 0, .int .i64 0, .slice none 0 0, .slice none 0 0] 34))).trans (tAl gg _ (Obj.cells #[.int .i64 S.kind, .slice A4 S.args.length c4] 30))))
           clear tyta okta szta dta uta
           have HCta := Lib.hid (Ctx.turn HC5.out Tta.out)
           have HSta := Lib.hid (Typ.turn HS5.out Tta.out)
           have z_wta : gg < wta.heap.size := Kta.out.lt)
        | (go_at_call 12
           have Pta := type_any 1 1 gg (W5.alloc (Obj.cells #[.int .i64 S.kind, .slice A4 S.args.length c4] 30)).drew (by omega) (by omega) (by omega) (Deck.drewd (Deck.box D_W5.out (Obj.cells #[.int .i64 S.kind, .slice A4 S.args.length c4] 30)))
           (with_reducible refine Pta.mono ?_)
           rintro e wta ⟨Uta', xta, rfl, okta, szta, tyta, dta, uta⟩
           clear Pta
           have Tta := Lib.hid (((tAl gg _ (Obj.cells #[.int .i64 S.kind, .slice A4 S.args.length c4] 30)).trans (tDr gg _)).trans (turn_of uta))
           have Uta := Lib.hid (((tAl gg _ (Obj.cells #[.int .i64 S.kind, .slice A4 S.args.length c4] 30)).trans (tDr gg _)).trans (turn_of uta))
           obtain ⟨Ata, cta, rfl⟩ := tyta.form
           have Kta := Lib.hid dta
           have Ita := Lib.hid tyta
           have Zta := Lib.hid ((Deck.drewd (Deck.box D_W5.out (Obj.cells #[.int .i64 S.kind, .slice A4 S.args.length c4] 30)))).lt
           have HUta := Lib.hid (show Uta'.ok = true ∧ Uta'.nodes ≤ 3 from And.intro okta (type_three szta))
           have YUta := Lib.hid (Typ.of tyta ((Deck.drewd (Deck.box D_W5.out (Obj.cells #[.int .i64 S.kind, .slice A4 S.args.length c4] 30)))).lt)
           have KSBta := Lib.hid (And.intro (Turn.blk (((tDr gg _).trans (turn_of uta))) (Blk.new W5 30 #[.int .i64 S.kind, .slice A4 S.args.length c4]) (by have := (Nat.le_refl W5.heap.size); omega)) (show W5.heap.size ≤ W5.heap.size by have := (Nat.le_refl W5.heap.size); omega))
           have Qta := Lib.hid (Turn.free (n := W5.heap.size - 1) Tta.out)
           have QtaB := Lib.hid (Turn.free (n := W5.heap.size - 1) (Tta.out.trans (tAl gg _ (Obj.cells #[.int .i64 S.kind, .slice A4 S.args.length c4] 30))))
           have QtaL := Lib.hid (Turn.free (n := W5.heap.size - 1) (Tta.out.trans (tAl gg _ (Obj.cells #[.int .i64 0, .int .i64 0, .int .i64 0, .slice none 0 0, .slice none 0 0] 34))))
           have QtaBL := Lib.hid (Turn.free (n := W5.heap.size - 1) ((Tta.out.trans (tAl gg _ (Obj.cells #[.int .i64 S.kind, .slice A4 S.args.length c4] 30))).trans (tAl gg _ (Obj.cells #[.int .i64 0, .int .i64 0, .int .i64 0, .slice none 0 0, .slice none 0 0] 34))))
           have QtaLB := Lib.hid (Turn.free (n := W5.heap.size - 1) ((Tta.out.trans (tAl gg _ (Obj.cells #[.int .i64 0, .int .i64 0, .int .i64 0, .slice none 0 0, .slice none 0 0] 34))).trans (tAl gg _ (Obj.cells #[.int .i64 S.kind, .slice A4 S.args.length c4] 30))))
           clear tyta okta szta dta uta
           have HCta := Lib.hid (Ctx.turn HC5.out Tta.out)
           have HSta := Lib.hid (Typ.turn HS5.out Tta.out)
           have z_wta : gg < wta.heap.size := Kta.out.lt)
        | (go_at_call 12
           have Pta := type_any 1 1 gg W5.drew (by omega) (by omega) (by omega) (Deck.drewd D_W5.out)
           (with_reducible refine Pta.mono ?_)
           rintro e wta ⟨Uta', xta, rfl, okta, szta, tyta, dta, uta⟩
           clear Pta
           have Tta := Lib.hid ((tDr gg _).trans (turn_of uta))
           have Uta := Lib.hid ((tDr gg _).trans (turn_of uta))
           obtain ⟨Ata, cta, rfl⟩ := tyta.form
           have Kta := Lib.hid dta
           have Ita := Lib.hid tyta
           have Zta := Lib.hid ((Deck.drewd D_W5.out)).lt
           have HUta := Lib.hid (show Uta'.ok = true ∧ Uta'.nodes ≤ 3 from And.intro okta (type_three szta))
           have YUta := Lib.hid (Typ.of tyta ((Deck.drewd D_W5.out)).lt)
           have Qta := Lib.hid (Turn.free (n := W5.heap.size - 1) Tta.out)
           have QtaB := Lib.hid (Turn.free (n := W5.heap.size - 1) (Tta.out.trans (tAl gg _ (Obj.cells #[.int .i64 S.kind, .slice A4 S.args.length c4] 30))))
           have QtaL := Lib.hid (Turn.free (n := W5.heap.size - 1) (Tta.out.trans (tAl gg _ (Obj.cells #[.int .i64 0, .int .i64 0, .int .i64 0, .slice none 0 0, .slice none 0 0] 34))))
           have QtaBL := Lib.hid (Turn.free (n := W5.heap.size - 1) ((Tta.out.trans (tAl gg _ (Obj.cells #[.int .i64 S.kind, .slice A4 S.args.length c4] 30))).trans (tAl gg _ (Obj.cells #[.int .i64 0, .int .i64 0, .int .i64 0, .slice none 0 0, .slice none 0 0] 34))))
           have QtaLB := Lib.hid (Turn.free (n := W5.heap.size - 1) ((Tta.out.trans (tAl gg _ (Obj.cells #[.int .i64 0, .int .i64 0, .int .i64 0, .slice none 0 0, .slice none 0 0] 34))).trans (tAl gg _ (Obj.cells #[.int .i64 S.kind, .slice A4 S.args.length c4] 30))))
           clear tyta okta szta dta uta
           have HCta := Lib.hid (Ctx.turn HC5.out Tta.out)
           have HSta := Lib.hid (Typ.turn HS5.out Tta.out)
           have z_wta : gg < wta.heap.size := Kta.out.lt))
    all_goals (go_wp2_with fail; go_meet; first | exact END.out | exact ENDN.out)
  case rest =>
    obtain ⟨U, okU, nU, q, x, Bx, ex, Ax, cx, rfl, hx, kx, hq, tx, dx, ux⟩ := hcut
    obtain ⟨wd, hwd⟩ : ∃ x, x = wc := ⟨_, rfl⟩
    subst hwd
    have HX := Lib.hid hx
    have bx : x.bulk ≤ 12000 := hx.bulk_le (bdN_le _ (by simp))
    have KX := Lib.hid kx
    have XX := Lib.hid (show Trm W5.heap.size wd x _ from IsTm.keep (fun b h => ⟨h.1, h.2.2⟩) (fun _ _ => rfl) _ tx)
    have D_wd := Lib.hid dx
    have hqg : q ≠ gg := by have := z_W5; omega
    have s_wd := ux
    have b_wd : Below w.heap.size w wd := b_W5.trans (s_wd.toBelow (fun k hk e => by omega) b_W5.size)
    have m_w3_wd := m_w3_W5.trans s_wd
    have m_w4_wd := m_w4_W5.trans s_wd
    have m_W5_wd := m_W5_W5.trans s_wd
    clear s_wd b_W5 m_w3_W5 m_w4_W5 m_W5_W5
    have z_wd : gg < wd.heap.size := D_wd.out.lt
    have m_wd_wd := tRf gg wd
    clear hx kx tx dx ux
    have KAd := Lib.hid (Turn.blk m_W5_wd KA.out n_W5)
    obtain ⟨s0, s1, _, _⟩ := KAd.out.facts2
    go_wp2_with fail
    refine (term_any gg (4 * 2 + S.nodes + 1) G S 2 _ _ wd (by simp) (by omega) (by omega) (by omega) HS.out.1 nS (Ctx.turn HC3.out m_w3_wd) (Typ.turn HS.out.2 m_w4_wd) D_wd.out).mono ?_
    rintro e we ⟨y, v9, rfl, my, ty, ky, uy⟩
    obtain ⟨By, ey, Ay, cy, rfl, _⟩ := IsTm.form ty
    have HY := Lib.hid my
    have by' : y.bulk ≤ 12000 := my.bulk_le (bdN_le _ (by simp))
    have D_we := Lib.hid ky
    have YY9 := Lib.hid (show Trm wd.heap.size we y _ from ty)
    have s_we := uy
    have b_we : Below w.heap.size w we := b_wd.trans (s_we.toBelow (fun k hk e => by omega) b_wd.size)
    have m_w3_we := m_w3_wd.trans s_we
    have m_w4_we := m_w4_wd.trans s_we
    have m_W5_we := m_W5_wd.trans s_we
    have m_wd_we := m_wd_wd.trans s_we
    clear s_we b_wd m_w3_wd m_w4_wd m_W5_wd m_wd_wd
    have z_we : gg < we.heap.size := D_we.out.lt
    have m_we_we := tRf gg we
    clear my ky ty uy s0 s1
    go_upto_region 10 with fail
    have n_wf : we.heap.size ≠ gg := by have := z_we; omega
    have d_wf := (Deck.box D_we.out (Obj.cells #[.int .i64 y.kind, .int .i64 y.index, .int .i64 y.type.kind, .slice By y.type.args.length ey, .slice Ay y.args.length cy] 34))
    obtain ⟨a_wf, y_wf, k_wf⟩ := new_blk (Below.refl we.heap.size we) (Nat.le_refl _) #[.int .i64 y.kind, .int .i64 y.index, .int .i64 y.type.kind, .slice By y.type.args.length ey, .slice Ay y.args.length cy] 34
    generalize we.alloc (Obj.cells #[.int .i64 y.kind, .int .i64 y.index, .int .i64 y.type.kind, .slice By y.type.args.length ey, .slice Ay y.args.length cy] 34) = wf at a_wf y_wf k_wf d_wf ⊢
    have s_wf := (tCa gg a_wf)
    have b_wf : Below w.heap.size w wf := b_we.trans (s_wf.toBelow (fun k hk e => by omega) b_we.size)
    have m_w3_wf := m_w3_we.trans s_wf
    have m_w4_wf := m_w4_we.trans s_wf
    have m_W5_wf := m_W5_we.trans s_wf
    have m_wd_wf := m_wd_we.trans s_wf
    have m_we_wf := m_we_we.trans s_wf
    clear s_wf b_we m_w3_we m_w4_we m_W5_we m_wd_we m_we_we
    have z_wf : gg < wf.heap.size := by have := z_we; omega
    have m_wf_wf := tRf gg wf
    have K_wf := Lib.hid k_wf
    have D_wf := Lib.hid d_wf
    clear a_wf k_wf y_wf d_wf
    obtain ⟨z, hz⟩ : ∃ z, z = x.put 0 y := ⟨_, rfl⟩
    have HP := Lib.hid (show z.ok = true ∧ z.size ≤ 4096 ∧ z.typ G = .ok U ∧ z.bulk ≤ 399000 by rw [hz]; exact made_put HX.out HY.out (bd_put U S))
    have hzb : z.bulk ≤ 390000 := by have h1 := okT_bulk1 z HP.out.1; have h2 := HP.out.2.1; omega
    have KXf := Turn.blk m_wd_wf KX.out hqg
    obtain ⟨x0, x1, x2, x3, x4, _⟩ := KXf.facts5
    obtain ⟨y0, y1, y2, y3, y4, _⟩ := K_wf.out.facts5
    have HXT := Lib.hid (Trm.below (Trm.turn XX.out m_wd_wf z_W5))
    have HYT := Lib.hid (Trm.below (Trm.turn YY9.out m_we_wf z_wd))
    have HE := Lib.hid (And.intro (made_err HX.out (Nat.le_trans (bd_3 U) (by omega))) (And.intro (made_err HY.out (Nat.le_trans (bd_2 S) (by omega))) (And.intro (made_low HX.out (by simp; omega) (Nat.le_trans (bd_3 U) (by omega))) (made_low HY.out (by omega) (Nat.le_trans (bd_2 S) (by omega))))))
    have HL6 := Lib.hid (And.intro (made_low6' HX.out.ok HX.out.typ (Nat.le_trans HX.out.size (Nat.le_trans (bd_3 U) (by omega))) (by simp; omega)) (And.intro (made_low6' HY.out.ok HY.out.typ (Nat.le_trans HY.out.size (Nat.le_trans (bd_2 S) (by omega))) (by omega)) (made_low6' HP.out.1 HP.out.2.2.1 HP.out.2.1 (by omega))))
    clear KXf
    go_wp2_with fail
    refine (putTop_is (t := x) (s := y) (U := z) hz.symm HP.out.2.1 (by omega) (by omega) HE.out.1 HE.out.2.1 HE.out.2.2.1 HE.out.2.2.2 (HTab.out.after b_wf) HXT.out HYT.out).mono ?_
    rintro e wg ⟨v10, rfl, tz, bz⟩
    obtain ⟨Bz, ez, Az, cz, rfl, _⟩ := IsTm.form tz
    have s_wg := (tCa gg bz)
    have b_wg : Below w.heap.size w wg := b_wf.trans (s_wg.toBelow (fun k hk e => by omega) b_wf.size)
    have m_w3_wg := m_w3_wf.trans s_wg
    have m_w4_wg := m_w4_wf.trans s_wg
    have m_W5_wg := m_W5_wf.trans s_wg
    have m_wd_wg := m_wd_wf.trans s_wg
    have m_we_wg := m_we_wf.trans s_wg
    have m_wf_wg := m_wf_wf.trans s_wg
    clear s_wg b_wf m_w3_wf m_w4_wf m_W5_wf m_wd_wf m_we_wf m_wf_wf
    have z_wg : gg < wg.heap.size := by have := bz.size; omega
    have m_wg_wg := tRf gg wg
    have HZ0 := Lib.hid tz
    have HZE := Lib.hid hz
    clear bz tz hz x0 x1 x2 x3 x4 y0 y1 y2 y3 y4
    go_upto_region 11 with fail
    obtain ⟨a_wh, y_wh, k_wh⟩ := new_blk (Below.refl wg.heap.size wg) (Nat.le_refl _) #[.int .i64 z.kind, .int .i64 z.index, .int .i64 z.type.kind, .slice Bz z.type.args.length ez, .slice Az z.args.length cz] 34
    generalize wg.alloc (Obj.cells #[.int .i64 z.kind, .int .i64 z.index, .int .i64 z.type.kind, .slice Bz z.type.args.length ez, .slice Az z.args.length cz] 34) = wh at a_wh y_wh k_wh ⊢
    have s_wh := (tCa gg a_wh)
    have b_wh : Below w.heap.size w wh := b_wg.trans (s_wh.toBelow (fun k hk e => by omega) b_wg.size)
    have m_w3_wh := m_w3_wg.trans s_wh
    have m_w4_wh := m_w4_wg.trans s_wh
    have m_W5_wh := m_W5_wg.trans s_wh
    have m_wd_wh := m_wd_wg.trans s_wh
    have m_we_wh := m_we_wg.trans s_wh
    have m_wf_wh := m_wf_wg.trans s_wh
    have m_wg_wh := m_wg_wg.trans s_wh
    clear s_wh b_wg m_w3_wg m_w4_wg m_W5_wg m_wd_wg m_we_wg m_wf_wg m_wg_wg
    have z_wh : gg < wh.heap.size := by have := z_wg; omega
    have m_wh_wh := tRf gg wh
    have n_wh : wg.heap.size ≠ gg := by have := z_wg; omega
    have K_wh := Lib.hid k_wh
    have HZ := Lib.hid (show IsTm (· < wh.heap.size) wh z _ from HZ0.out.keep (fun b h => Nat.lt_of_lt_of_le h a_wh.size) (fun p hp => a_wh.cell hp))
    clear a_wh y_wh k_wh
    obtain ⟨x0, x1, x2, x3, x4, _⟩ := (Turn.blk m_wd_wh KX.out hqg).facts5
    go_wp2_with fail
    refine (uses_any x _ wh (by omega) HE.out.1 HL6.out.1 (HTab.out.after b_wh) (Trm.below (Trm.turn XX.out m_wd_wh z_W5))).mono ?_
    rintro e wi ⟨s1, LA, rfl, uLA, own1, b1⟩
    have s_wi := (tCa gg b1)
    have b_wi : Below w.heap.size w wi := b_wh.trans (s_wi.toBelow (fun k hk e => by omega) b_wh.size)
    have m_w3_wi := m_w3_wh.trans s_wi
    have m_w4_wi := m_w4_wh.trans s_wi
    have m_W5_wi := m_W5_wh.trans s_wi
    have m_wd_wi := m_wd_wh.trans s_wi
    have m_we_wi := m_we_wh.trans s_wi
    have m_wf_wi := m_wf_wh.trans s_wi
    have m_wg_wi := m_wg_wh.trans s_wi
    have m_wh_wi := m_wh_wh.trans s_wi
    clear s_wi b_wh m_w3_wh m_w4_wh m_W5_wh m_wd_wh m_we_wh m_wf_wh m_wg_wh m_wh_wh
    have z_wi : gg < wi.heap.size := by have := b1.size; omega
    have m_wi_wi := tRf gg wi
    obtain ⟨P1, cp1, rfl, hl1, row1⟩ := row_form own1
    have R1 := Lib.hid row1
    have U1 := Lib.hid uLA
    have BB1 := Lib.hid b1
    clear uLA own1 row1 b1 x0 x1 x2 x3 x4
    go_upto_region 12 with fail
    obtain ⟨x0, x1, x2, x3, x4, _⟩ := (Turn.blk m_wf_wi K_wf.out n_wf).facts5
    go_wp2_with fail
    refine (uses_any y _ wi (by omega) HE.out.2.1 HL6.out.2.1 (HTab.out.after b_wi) (Trm.below (Trm.turn YY9.out m_we_wi z_wd))).mono ?_
    rintro e wj ⟨s2, LB, rfl, uLB, own2, b2⟩
    have s_wj := (tCa gg b2)
    have b_wj : Below w.heap.size w wj := b_wi.trans (s_wj.toBelow (fun k hk e => by omega) b_wi.size)
    have m_w3_wj := m_w3_wi.trans s_wj
    have m_w4_wj := m_w4_wi.trans s_wj
    have m_W5_wj := m_W5_wi.trans s_wj
    have m_wd_wj := m_wd_wi.trans s_wj
    have m_we_wj := m_we_wi.trans s_wj
    have m_wf_wj := m_wf_wi.trans s_wj
    have m_wg_wj := m_wg_wi.trans s_wj
    have m_wh_wj := m_wh_wi.trans s_wj
    have m_wi_wj := m_wi_wi.trans s_wj
    clear s_wj b_wi m_w3_wi m_w4_wi m_W5_wi m_wd_wi m_we_wi m_wf_wi m_wg_wi m_wh_wi m_wi_wi
    have z_wj : gg < wj.heap.size := by have := b2.size; omega
    have m_wj_wj := tRf gg wj
    obtain ⟨P2, cp2, rfl, hl2, row2⟩ := row_form own2
    have R2 := Lib.hid row2
    have U2 := Lib.hid uLB
    have BB2 := Lib.hid b2
    clear uLB own2 row2 b2 x0 x1 x2 x3 x4
    go_upto_region 13 with fail
    have HZJ := Lib.hid (show IsTm (· < wj.heap.size) wj z _ from HZ.out.keep (fun b h => by have := BB1.out.size; have := BB2.out.size; have h' : b < wh.heap.size := h; omega) (fun p hp => (BB2.out.cell (by have := BB1.out.size; have h' : p.block < wh.heap.size := hp; omega)).trans (BB1.out.cell hp)))
    obtain ⟨x0, x1, x2, x3, x4, _⟩ := (Turn.blk m_wh_wj K_wh.out n_wh).facts5
    go_wp2_with fail
    refine (uses_any z _ wj (by omega) (errT_zero.2 ⟨HP.out.1, HP.out.2.1⟩) HL6.out.2.2 (HTab.out.after b_wj) HZJ.out).mono ?_
    rintro e wk ⟨s3, LC, rfl, uLC, own3, b3⟩
    have s_wk := (tCa gg b3)
    have b_wk : Below w.heap.size w wk := b_wj.trans (s_wk.toBelow (fun k hk e => by omega) b_wj.size)
    have m_w3_wk := m_w3_wj.trans s_wk
    have m_w4_wk := m_w4_wj.trans s_wk
    have m_W5_wk := m_W5_wj.trans s_wk
    have m_wd_wk := m_wd_wj.trans s_wk
    have m_we_wk := m_we_wj.trans s_wk
    have m_wf_wk := m_wf_wj.trans s_wk
    have m_wg_wk := m_wg_wj.trans s_wk
    have m_wh_wk := m_wh_wj.trans s_wk
    have m_wi_wk := m_wi_wj.trans s_wk
    have m_wj_wk := m_wj_wj.trans s_wk
    clear s_wk b_wj m_w3_wj m_w4_wj m_W5_wj m_wd_wj m_we_wj m_wf_wj m_wg_wj m_wh_wj m_wi_wj m_wj_wj
    have z_wk : gg < wk.heap.size := by have := b3.size; omega
    have m_wk_wk := tRf gg wk
    obtain ⟨P3, cp3, rfl, hl3, row3⟩ := row_form own3
    have R3 := Lib.hid row3
    have U3 := Lib.hid uLC
    have BB3 := Lib.hid b3
    clear uLC own3 row3 b3 x0 x1 x2 x3 x4
    have hU := uses_put HX.out.ok HY.out.ok U1.out U2.out (by rw [← HZE.out]; exact U3.out)
    have HU := Lib.hid hU
    clear hU
    have HLN := Lib.hid (And.intro (uses_len HL6.out.1 U1.out) (And.intro (uses_len HL6.out.2.1 U2.out) (uses_len HL6.out.2.2 U3.out)))
    have hmm := @run_makeMap Tryd.prog
    go_upto_region 18 with fail
    have HM0 := Lib.hid (want_made wk)
    generalize wk.alloc (.map #[] 0) = W0 at HM0 ⊢
    go_wp2_with fail
    have BB23 := Lib.hid (BB2.out.trans (BB3.out.mono BB2.out.size))
    have BB123 := Lib.hid (BB1.out.trans (BB23.out.mono BB1.out.size))
    have US1 := Lib.hid (uses_small (b := 1000000) HL6.out.1 U1.out)
    have US2 := Lib.hid (uses_small (b := 1000000) HL6.out.2.1 U2.out)
    have US3 := Lib.hid (uses_small (b := 1000000) HL6.out.2.2 U3.out)
    go_loopw [17, 88] (fun h ix wr => ∃ j : Nat, j ≤ LA.length ∧ ix = .int .i64 j ∧ h = .bool (decide ((0 : Int) ∈ LA.take j)) ∧ WantAt wk j (setD (lowD (LA.take j))) wr) (fun _ ix _ => LA.length - (intOf ix).toNat)
    case atStart => exact ⟨0, by omega, rfl, by simp, HM0.out⟩
    case round =>
      obtain ⟨j, hj, rfl, rfl, hw⟩ := hrel
      have HW := Lib.hid hw
      clear hw
      by_cases hlt : j < LA.length
      · obtain ⟨a1, rfl, _, h1, c1⟩ := R1.out j hlt
        have hzk := BB23.out.size
        have c1' := (HW.out.2.cell (p := a1.add j) (by rw [add_block]; omega)).trans ((BB23.out.cell (p := a1.add j) (by rw [add_block]; exact h1)).trans c1)
        have hx := US1.out LA[j] (List.getElem_mem hlt)
        have HZ0 := Lib.hid (lowD_zero hlt)
        have HZ1 := Lib.hid (lowD_more hlt)
        have HZ2 := Lib.hid (zero_in hlt)
        have hpl : j < maxLen := by have := HLN.out.1; unfold maxLen; omega
        generalize LA[j] = x at c1' hx HZ0 HZ1 HZ2
        clear c1
        by_cases hx0 : x = 0
        · have HX0 := Lib.hid hx0
          have e0 : (x == 0) = true := by simpa using hx0
          clear hx0
          go_wp2_with fail
          refine ⟨⟨j + 1, by omega, by go_num, ?_, ?_⟩, by simp [intOf]; omega⟩
          · rw [HZ2.out, decide_eq_true HX0.out, Bool.or_true]
          · rw [HZ0.out HX0.out]
            exact ⟨HW.out.1.mono (by omega), HW.out.2⟩
        · have HX0 := Lib.hid hx0
          have e0 : (x == 0) = false := by simpa using hx0
          have hwf : (Lit.int .i64 (x - 1)).wf = true := WalkArith.wf_i64 (by omega)
          clear hx0
          go_wp2_with (at_mapUpdate; refine wpList_mapUpdate_own _ rfl _ _ _ 41 rfl 3 4 (Maps.int_keyed Tryd.underlying3) Tryd.underlying41 _ wk.heap.size j _ rfl HW.out.1 hpl _ _ _ rfl rfl (Maps.keyOf_int_mk Tryd.underlying3 hwf) _ [] (plainElem_bool Tryd.underlying4 true) ?_; intro w3 hown3 hgrow3)
          refine ⟨⟨j + 1, by omega, by go_num, ?_, ?_⟩, by simp [intOf]; omega⟩
          · rw [HZ2.out, decide_eq_false HX0.out, Bool.or_false]
          · rw [HZ1.out HX0.out, setD_snoc]
            exact ⟨hown3, HW.out.2.grown hgrow3 HW.out.2.size (fun k e => by cases e; exact Nat.le_refl _)⟩
      · have hjl : j = LA.length := by omega
        subst hjl
        rw [List.take_length] at HW ⊢
        obtain ⟨has, hhas⟩ : ∃ b, decide ((0 : Int) ∈ LA) = b := ⟨_, rfl⟩
        rw [hhas]
        have HH := Lib.hid hhas
        clear hhas
        go_wp2_with fail
        go_loopw [100] (fun ix wr => ∃ j : Nat, j ≤ LB.length ∧ ix = .int .i64 j ∧ WantAt wk (LA.length + j) (setD (lowD LA ++ if has = true then LB.take j else [])) wr) (fun ix _ => LB.length - (intOf ix).toNat)
        case atStart =>
          refine ⟨0, by omega, rfl, ?_⟩
          rw [List.take_zero, ite_self, List.append_nil]
          exact HW.out
        case round =>
          clear HW
          obtain ⟨j, hj, rfl, hw⟩ := hrel
          have HW := Lib.hid hw
          clear hw
          by_cases hlt : j < LB.length
          · obtain ⟨a1, rfl, _, h1, c1⟩ := R2.out j hlt
            have c1' := (HW.out.2.cell (p := a1.add j) (by rw [add_block]; have := BB3.out.size; omega)).trans ((BB3.out.cell (p := a1.add j) (by rw [add_block]; exact h1)).trans c1)
            have hx := US2.out LB[j] (List.getElem_mem hlt)
            have HZ0 := Lib.hid (List.take_succ_eq_append_getElem hlt)
            have hpl : LA.length + j < maxLen := by have := HLN.out.1; have := HLN.out.2.1; unfold maxLen; omega
            generalize LB[j] = x at c1' hx HZ0
            clear c1
            cases has
            · go_wp2_with fail
              refine ⟨⟨j + 1, by omega, by go_num, ?_⟩, by simp [intOf]; omega⟩
              exact ⟨HW.out.1.mono (by omega), HW.out.2⟩
            · have hwf : (Lit.int .i64 x).wf = true := WalkArith.wf_i64 (by omega)
              go_wp2_with (at_mapUpdate; refine wpList_mapUpdate_own _ rfl _ _ _ 41 rfl 3 4 (Maps.int_keyed Tryd.underlying3) Tryd.underlying41 _ wk.heap.size (LA.length + j) _ rfl HW.out.1 hpl _ _ _ rfl rfl (Maps.keyOf_int_mk Tryd.underlying3 hwf) _ [] (plainElem_bool Tryd.underlying4 true) ?_; intro w3 hown3 hgrow3)
              refine ⟨⟨j + 1, by omega, by go_num, ?_⟩, by simp [intOf]; omega⟩
              rw [HZ0.out, ← List.append_assoc, setD_snoc]
              exact ⟨hown3, HW.out.2.grown hgrow3 HW.out.2.size (fun k e => by cases e; exact Nat.le_refl _)⟩
          · have hjl : j = LB.length := by omega
            subst hjl
            rw [List.take_length] at HW
            obtain ⟨K, hK⟩ : ∃ K, (lowD LA ++ if has = true then LB else []) = K := ⟨_, rfl⟩
            rw [hK] at HW
            have HK := Lib.hid (show ∀ x, x ∈ LC ↔ x ∈ K from fun x => by
              rw [← hK, HU.out x, List.mem_append, mem_lowD]
              cases has
              · simp [of_decide_eq_false HH.out]
              · simp [of_decide_eq_true HH.out])
            clear hK
            obtain ⟨W1, hW1⟩ : ∃ x, x = wr := ⟨_, rfl⟩
            subst hW1
            go_wp2_with fail
            go_loopw [110] (fun ix wr => ∃ j : Nat, j ≤ LC.length ∧ ix = .int .i64 j ∧ wr = W1) (fun ix _ => LC.length - (intOf ix).toNat)
            case atStart => exact ⟨0, by omega, rfl, rfl⟩
            case round =>
              obtain ⟨j, hj, rfl, hwr⟩ := hrel
              subst hwr
              by_cases hlt : j < LC.length
              · obtain ⟨a1, rfl, _, h1, c1⟩ := R3.out j hlt
                have c1' := (HW.out.2.cell (p := a1.add j) (by rw [add_block]; exact h1)).trans c1
                have hx := US3.out LC[j] (List.getElem_mem hlt)
                have hlk := want_look HW.out ((HK.out LC[j]).1 (List.getElem_mem hlt)) (WalkArith.wf_i64 (by omega))
                generalize LC[j] = x at c1' hx hlk
                clear c1
                go_wp2_with fail
                exact ⟨⟨j + 1, by omega, by go_num, trivial⟩, by simp [intOf]; omega⟩
              · have hjl : j = LC.length := by omega
                subst hjl
                go_upto_region 38 with fail
                have KYW := Lib.hid fun (w' : World) (h : Below wk.heap.size wk w') => (Turn.blk m_wf_wk K_wf.out n_wf).below h (Turn.blk m_wf_wk K_wf.out n_wf).lt
                have KXW := Lib.hid fun (w' : World) (h : Below wk.heap.size wk w') => (Turn.blk m_wd_wk KX.out hqg).below h (Turn.blk m_wd_wk KX.out hqg).lt
                have KZ := Lib.hid fun (w' : World) (h : Below wk.heap.size wk w') => (Turn.blk m_wh_wk K_wh.out n_wh).below h (Turn.blk m_wh_wk K_wh.out n_wh).lt
                have YW := Lib.hid fun (w' : World) (h : Below wk.heap.size wk w') => IsTm.keep (S' := (· < w'.heap.size)) (w' := w') (fun b hb => Nat.lt_of_lt_of_le hb h.size) (fun p hp => h.cell hp) _ (Trm.below (Trm.turn YY9.out m_we_wk z_wd))
                have XW := Lib.hid fun (w' : World) (h : Below wk.heap.size wk w') => IsTm.keep (S' := (· < w'.heap.size)) (w' := w') (fun b hb => Nat.lt_of_lt_of_le hb h.size) (fun p hp => h.cell hp) _ (Trm.below (Trm.turn XX.out m_wd_wk z_W5))
                have ZW := Lib.hid fun (w' : World) (h : Below wk.heap.size wk w') => IsTm.keep (S' := (· < w'.heap.size)) (w' := w') (fun b hb => by have h' : b < wj.heap.size := hb; have := h.size; have := BB3.out.size; omega) (fun p hp => (h.cell (by have h' : p.block < wj.heap.size := hp; have := BB3.out.size; omega)).trans (BB3.out.cell hp)) _ HZJ.out
                have HZS := Lib.hid (size_rest (y := y) HX.out.ok HZE.out)
                have hys : 0 < y.size ∧ y.size ≤ 4096 := ⟨by cases y; simp only [Tm.size]; omega, Nat.le_trans HY.out.size (Nat.le_trans (bd_2 S) (by omega))⟩
                have hzs : z.size ≤ 4096 := HP.out.2.1
                have hxs : x.size ≤ 4096 := Nat.le_trans HX.out.size (Nat.le_trans (bd_3 U) (by omega))
                obtain ⟨y0, y1, y2, y3, y4, _⟩ := (KYW.out wr HW.out.2).facts5
                have hsub : IntKind.i64.wrap ((y.size : Int) - 1) = (y.size : Int) - 1 := IntWalk.i64_in _ (by omega)
                go_wp2_with fail
                refine (nodesOf_any 12000 y _ wr by' (by decide) (YW.out wr HW.out.2)).mono ?_
                rintro e W38 ⟨rfl, b38⟩
                have HW38 := Lib.hid (want_below HW.out b38)
                clear b38 y0 y1 y2 y3 y4
                have hsub' : IntKind.i64.wrap ((z.size : Int) - (x.size : Int)) = (z.size : Int) - (x.size : Int) := IntWalk.i64_in _ (by omega)
                by_cases hy1 : 1 < y.size
                · have hd1 : decide ((y.size : Int) - 1 > 0) = true := decide_eq_true (by omega)
                  have hd2 : ((y.size : Int) - 1 == 0) = false := by simp; omega
                  have hrem := HZS.out hy1
                  have hw00 : IntKind.i64.wrap 0 = 0 := rfl
                  have hd4 : ¬ ((y.size : Int) - 1 = 0) := by omega
                  have hd5 : ¬ ((y.size : Int) = 1) := by omega
                  have hd6 : ¬ (y.size = 1) := by omega
                  have QD := Lib.hid (show Below wk.heap.size wk W38.drew from HW38.out.2.drew)
                  have GD := Lib.hid (show Below W38.heap.size W38 W38.drew from (Below.refl _ _).drew)
                  have HSK := Lib.hid fun (w' : World) (h : Below wk.heap.size wk w') => And.intro (KZ.out w' h).facts5.1 (And.intro (KZ.out w' h).facts5.2.1 (And.intro (KZ.out w' h).facts5.2.2.1 (And.intro (KZ.out w' h).facts5.2.2.2.1 (And.intro (KZ.out w' h).facts5.2.2.2.2.1 (And.intro (KXW.out w' h).facts5.1 (And.intro (KXW.out w' h).facts5.2.1 (And.intro (KXW.out w' h).facts5.2.2.1 (And.intro (KXW.out w' h).facts5.2.2.2.1 ((KXW.out w' h).facts5.2.2.2.2.1)))))))))
                  obtain ⟨q0, q1, q2, q3, q4, q5, q6, q7, q8, q9⟩ := HSK.out W38 HW38.out.2
                  go_upto_region 40 with fail
                  go_region_held3 (fun w' => w'.cell? ⟨wg.heap.size, 0, none⟩ = some (.int .i64 z.kind) ∧ w'.cell? ⟨wg.heap.size, 1, none⟩ = some (.int .i64 z.index) ∧ w'.cell? ⟨wg.heap.size, 2, none⟩ = some (.int .i64 z.type.kind) ∧ w'.cell? ⟨wg.heap.size, 3, none⟩ = some (.slice Bz z.type.args.length ez) ∧ w'.cell? ⟨wg.heap.size, 4, none⟩ = some (.slice Az z.args.length cz) ∧ w'.cell? ⟨q, 0, none⟩ = some (.int .i64 x.kind) ∧ w'.cell? ⟨q, 1, none⟩ = some (.int .i64 x.index) ∧ w'.cell? ⟨q, 2, none⟩ = some (.int .i64 x.type.kind) ∧ w'.cell? ⟨q, 3, none⟩ = some (.slice Bx x.type.args.length ex) ∧ w'.cell? ⟨q, 4, none⟩ = some (.slice Ax x.args.length cx))
                    (first | with_reducible exact HSK.out _ QD.out | with_reducible exact HSK.out _ Bwz2.out | with_reducible exact HSK.out _ Bwx2.out | with_reducible exact HSK.out _ Bwz1.out | with_reducible exact HSK.out _ Bwx1.out)
                    (first
                      | (go_at_call 16
                         have Pwz2 := nodesOf_any 390000 z _ wx1 hzb (by decide) (ZW.out wx1 Bwx1.out)
                         (with_reducible refine Pwz2.mono ?_)
                         rintro e wz2 ⟨rfl, bwz2⟩
                         clear Pwz2
                         have Bwz2 := Lib.hid (show Below wk.heap.size wk wz2 from Bwx1.out.trans (bwz2.mono Bwx1.out.size))
                         have Gwz2 := Lib.hid (show Below W38.heap.size W38 wz2 from Gwx1.out.trans (bwz2.mono Gwx1.out.size)))
                      | (go_at_call 16
                         have Pwx2 := nodesOf_any 390000 x _ wz1 (by omega) (by decide) (XW.out wz1 Bwz1.out)
                         (with_reducible refine Pwx2.mono ?_)
                         rintro e wx2 ⟨rfl, bwx2⟩
                         clear Pwx2
                         have Bwx2 := Lib.hid (show Below wk.heap.size wk wx2 from Bwz1.out.trans (bwx2.mono Bwz1.out.size))
                         have Gwx2 := Lib.hid (show Below W38.heap.size W38 wx2 from Gwz1.out.trans (bwx2.mono Gwz1.out.size)))
                      | (go_at_call 16
                         have Pwz1 := nodesOf_any 390000 z _ W38.drew hzb (by decide) (ZW.out W38.drew QD.out)
                         (with_reducible refine Pwz1.mono ?_)
                         rintro e wz1 ⟨rfl, bwz1⟩
                         clear Pwz1
                         have Bwz1 := Lib.hid (show Below wk.heap.size wk wz1 from QD.out.trans (bwz1.mono QD.out.size))
                         have Gwz1 := Lib.hid (show Below W38.heap.size W38 wz1 from GD.out.trans bwz1))
                      | (go_at_call 16
                         have Pwx1 := nodesOf_any 390000 x _ W38.drew (by omega) (by decide) (XW.out W38.drew QD.out)
                         (with_reducible refine Pwx1.mono ?_)
                         rintro e wx1 ⟨rfl, bwx1⟩
                         clear Pwx1
                         have Bwx1 := Lib.hid (show Below wk.heap.size wk wx1 from QD.out.trans (bwx1.mono QD.out.size))
                         have Gwx1 := Lib.hid (show Below W38.heap.size W38 wx1 from GD.out.trans bwx1)))
                  all_goals
                    first | (have FW := Lib.hid (want_below HW38.out Gwz2.out)) | (have FW := Lib.hid (want_below HW38.out Gwx2.out))
                    have hle := fun ty => want_len FW.out U3.out.1 HK.out ty
                    go_wp2_with fail
                    go_ret
                    exact ⟨rfl, b_wk.trans (FW.out.2.mono b_wk.size)⟩
                · have hd1 : decide ((y.size : Int) - 1 > 0) = false := decide_eq_false (by omega)
                  have hle := fun ty => want_len HW38.out U3.out.1 HK.out ty
                  go_wp2_with fail
                  go_ret
                  exact ⟨rfl, b_wk.trans (HW38.out.2.mono b_wk.size)⟩
end Go.Proofs.YtnodebcbnfkioaaDoor
