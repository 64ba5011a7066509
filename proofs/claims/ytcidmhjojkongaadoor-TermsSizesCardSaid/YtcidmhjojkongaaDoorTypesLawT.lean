/- The walk of the law on types: what is made for a type has it. -/
import Derived.Test.YtcidmhjojkongaaDoorSaneU
import Derived.Test.YtcidmhjojkongaaDoorMkTerm
import Derived.Laws.AppendOwnNone
namespace Go.Proofs.YtcidmhjojkongaaDoor
open Go.RowKit

theorem typeOf_made {G : List Ty} {t : Ty} {a p : Nat} {T : Tm} (h : Made G t a p T) (ha : a ≤ 4096) (hG : G.length ≤ 16) (hok : ∀ U ∈ G, U.ok = true ∧ U.nodes ≤ 3) : T.typeOf G = .ok t := by
  have hc : ctxErr G = 0 := by
    unfold ctxErr
    rw [if_neg (by omega)]
    clear h hG
    induction G with
    | nil => rfl
    | cons U r ih =>
      unfold errs
      have h0 := hok U (by simp)
      have e : U.err = 0 := err_zero.2 ⟨h0.1, by omega⟩
      rw [if_pos e]
      exact ih (fun V hV => hok V (by simp [hV]))
  unfold Tm.typeOf
  rw [if_pos hc, if_pos (errT_zero.2 ⟨h.ok, by have := h.size; omega⟩), h.typ]
theorem nodesAll_small {G : List Ty} (hok : ∀ U ∈ G, U.ok = true ∧ U.nodes ≤ 3) : nodesAll G ≤ 3 * G.length := by
  induction G with
  | nil => simp [nodesAll]
  | cons U r ih =>
    have h0 := (hok U (by simp)).2
    have := ih (fun V hV => hok V (by simp [hV]))
    simp only [nodesAll, List.length_cons]; omega
theorem Made.more {G : List Ty} {t : Ty} {a p : Nat} {T : Tm} (h : Made G t a p T) (L : List Ty) : Made (L ++ G) t a p T := { h with typ := typ_more L T G h.typ }
theorem type_three {S : Ty} (h : S.nodes + 1 ≤ 2 ^ (1 + 1)) : S.nodes ≤ 3 := by simp at h; omega

set_option maxRecDepth 100000 in
set_option maxHeartbeats 1600000 in
theorem typesLaw_small (A : Option Addr) (len cap : Nat) (w : World) (htab : Tab w) (hlen : len ≤ 500) (hA : ∀ i, i < len → ∃ a x, A = some a ∧ a.block < w.heap.size ∧ w.cell? (a.add i) = some (.int .i64 x)) :
    Calls Tryd.prog 4 #[.slice A len cap] w fun e w' => e = .returned (.bool true) ∧ Below w.heap.size w w' := by
  have hA' := Lib.hid hA
  have HTab := Lib.hid htab
  clear hA htab
  have e500 : decide ((len : Int) ≤ 500) = true := by simp; omega
  go_enter Tryd.func4, Tryd.ntmps4
  go_wp2_with fail
  refine (saneT_any w HTab.out).mono ?_
  rintro e w1 ⟨rfl, hb1⟩
  go_wp2_with fail
  refine (few_any A len cap w1 (by simp only [maxLen]; omega)).mono ?_
  rintro e w1' ⟨rfl, rfl⟩
  rw [e500]
  go_wp2_with fail
  have hA1 : ∀ i, i < len → ∃ a x, A = some a ∧ a.block < w1.heap.size ∧ w1.cell? (a.add i) = some (.int .i64 x) := fun i hi => by
    obtain ⟨a, x, h1, h2, h3⟩ := hA'.out i hi
    exact ⟨a, x, h1, Nat.lt_of_lt_of_le h2 hb1.size, (hb1.cell (by rw [add_block]; exact h2)).trans h3⟩
  refine (new_any A len cap w1 hlen hA1).mono ?_
  rintro e w2 ⟨rfl, hw2⟩
  have hd2 := new_deck A len cap w1 hlen hA1
  rw [hw2] at hd2
  have b_w2 : Below w.heap.size w w2 := by rw [← hw2]; exact hb1.alloc hb1.size _
  have hgw : w.heap.size ≤ w1.heap.size := hb1.size
  clear hw2 hA1 hb1
  generalize w1.heap.size = gg at hd2 hgw ⊢
  have z_w2 := hd2.lt
  have HD2 := Lib.hid hd2
  clear hd2
  go_wp2_with fail
  refine (mkContext_any gg w2 HD2.out).mono ?_
  rintro e w3 ⟨G, v, rfl, hG3, hGok, hGs, hGf, hGnil, hd3, hg3⟩
  obtain ⟨A3, c3, rfl⟩ := hGs.form
  have HD3 := Lib.hid hd3
  have HC3 := Lib.hid (show Ctx gg w3 G (.slice A3 G.length c3) from ⟨hGs.keep (fun b hb => ⟨by have := hb.1; omega, hb.2⟩) (fun _ _ => rfl), hGf, hGok⟩)
  have HGN := Lib.hid hGnil
  have HGO := Lib.hid hGok
  have s_w3 := turn_of hg3
  have b_w3 : Below w.heap.size w w3 := b_w2.trans (s_w3.toBelow (fun k hk e => by omega) b_w2.size)
  clear s_w3 b_w2 
  have z_w3 : gg < w3.heap.size := HD3.out.lt
  have m_w3_w3 := tRf gg w3
  clear hg3 hd3 hGs hGf hGnil hGok
  go_wp2_with fail
  refine (type_any 1 1 gg w3 (by omega) (by omega) (by omega) HD3.out).mono ?_
  rintro e w4 ⟨S, x4, rfl, okS, szS, tyS, hd4, hg4⟩
  obtain ⟨A4, c4, rfl⟩ := tyS.form
  have hS3 := type_three szS
  have HS4 := Lib.hid (Typ.of tyS z_w3)
  have HOK := Lib.hid okS
  have D_w4 := Lib.hid hd4
  have s_w4 := turn_of hg4
  have b_w4 : Below w.heap.size w w4 := b_w3.trans (s_w4.toBelow (fun k hk e => by omega) b_w3.size)
  have m_w3_w4 := m_w3_w3.trans s_w4
  clear s_w4 b_w3 m_w3_w3
  have z_w4 : gg < w4.heap.size := D_w4.out.lt
  have m_w4_w4 := tRf gg w4
  clear tyS hd4 hg4 szS okS
  go_wp2_with fail
  have n_W5 : w4.heap.size ≠ gg := by have := z_w4; omega
  have d_W5 := (Deck.box D_w4.out (Obj.cells #[.int .i64 S.kind, .slice A4 S.args.length c4] 25))
  obtain ⟨a_W5, y_W5, k_W5⟩ := new_blk (Below.refl w4.heap.size w4) (Nat.le_refl _) #[.int .i64 S.kind, .slice A4 S.args.length c4] 25
  generalize w4.alloc (Obj.cells #[.int .i64 S.kind, .slice A4 S.args.length c4] 25) = W5 at a_W5 y_W5 k_W5 d_W5 ⊢
  have s_W5 := (tCa gg a_W5)
  have b_W5 : Below w.heap.size w W5 := b_w4.trans (s_W5.toBelow (fun k hk e => by omega) b_w4.size)
  have m_w3_W5 := m_w3_w4.trans s_W5
  have m_w4_W5 := m_w4_w4.trans s_W5
  clear s_W5 b_w4 m_w3_w4 m_w4_w4
  have z_W5 : gg < W5.heap.size := by have := z_w4; omega
  have m_W5_W5 := tRf gg W5
  have K_W5 := Lib.hid k_W5
  have D_W5 := Lib.hid d_W5
  clear a_W5 k_W5 y_W5 d_W5
  refine (term_any gg (4 * 3 + S.nodes + 1) G S 3 _ _ W5 (by simp) (by omega) (by omega) (by simp; omega) HOK.out hS3 (Ctx.turn HC3.out m_w3_W5) (Typ.turn HS4.out m_w4_W5) D_W5.out).mono ?_
  rintro e w6 ⟨T, v6, rfl, mT, tT, hd6, ht6⟩
  obtain ⟨B6, e6, A6, c6, rfl, _⟩ := IsTm.form tT
  have HMT := Lib.hid mT
  have bT : T.bulk ≤ 12000 := mT.bulk_le (bdN_le _ (by simp))
  have HTT := Lib.hid (show Trm W5.heap.size w6 T _ from tT)
  have D_w6 := Lib.hid hd6
  have s_w6 := ht6
  have b_w6 : Below w.heap.size w w6 := b_W5.trans (s_w6.toBelow (fun k hk e => by omega) b_W5.size)
  have m_w3_w6 := m_w3_W5.trans s_w6
  have m_w4_w6 := m_w4_W5.trans s_w6
  have m_W5_w6 := m_W5_W5.trans s_w6
  clear s_w6 b_W5 m_w3_W5 m_w4_W5 m_W5_W5
  have z_w6 : gg < w6.heap.size := D_w6.out.lt
  have m_w6_w6 := tRf gg w6
  clear tT hd6 ht6 mT
  go_wp2_with fail
  have n_W7 : w6.heap.size ≠ gg := by have := z_w6; omega
  have d_W7 := (Deck.box D_w6.out (Obj.cells #[.int .i64 T.kind, .int .i64 T.index, .int .i64 T.type.kind, .slice B6 T.type.args.length e6, .slice A6 T.args.length c6] 28))
  obtain ⟨a_W7, y_W7, k_W7⟩ := new_blk (Below.refl w6.heap.size w6) (Nat.le_refl _) #[.int .i64 T.kind, .int .i64 T.index, .int .i64 T.type.kind, .slice B6 T.type.args.length e6, .slice A6 T.args.length c6] 28
  generalize w6.alloc (Obj.cells #[.int .i64 T.kind, .int .i64 T.index, .int .i64 T.type.kind, .slice B6 T.type.args.length e6, .slice A6 T.args.length c6] 28) = W7 at a_W7 y_W7 k_W7 d_W7 ⊢
  have s_W7 := (tCa gg a_W7)
  have b_W7 : Below w.heap.size w W7 := b_w6.trans (s_W7.toBelow (fun k hk e => by omega) b_w6.size)
  have m_w3_W7 := m_w3_w6.trans s_W7
  have m_w4_W7 := m_w4_w6.trans s_W7
  have m_W5_W7 := m_W5_w6.trans s_W7
  have m_w6_W7 := m_w6_w6.trans s_W7
  clear s_W7 b_w6 m_w3_w6 m_w4_w6 m_W5_w6 m_w6_w6
  have z_W7 : gg < W7.heap.size := by have := z_w6; omega
  have m_W7_W7 := tRf gg W7
  have K_W7 := Lib.hid k_W7
  have D_W7 := Lib.hid d_W7
  clear a_W7 k_W7 y_W7 d_W7
  have hT1 := Lib.hid (typeOf_made HMT.out (Nat.le_trans (bdN_le _ (by simp)) (by omega)) (by omega) HGO.out)
  have hGn := nodesAll_small HGO.out
  refine (typeTop_is (t := T) (g := G) hT1.out (HTab.out.after b_W7) (by omega) (by omega) (by omega) HGN.out ((Ctx.turn HC3.out m_w3_W7).sl.keep (fun _ h => h.2) (fun _ _ => rfl)) (Trm.below (Trm.turn HTT.out m_w6_W7 z_W5))).mono ?_
  rintro e w8 ⟨v8, rfl, ht8, hb8⟩
  obtain ⟨A8, c8, rfl⟩ := ht8.form
  have D_w8 := Lib.hid (Deck.call D_W7.out hb8)
  have s_w8 := (tCa gg hb8)
  have b_w8 : Below w.heap.size w w8 := b_W7.trans (s_w8.toBelow (fun k hk e => by omega) b_W7.size)
  have m_w3_w8 := m_w3_W7.trans s_w8
  have m_w4_w8 := m_w4_W7.trans s_w8
  have m_W5_w8 := m_W5_W7.trans s_w8
  have m_w6_w8 := m_w6_W7.trans s_w8
  have m_W7_w8 := m_W7_W7.trans s_w8
  clear s_w8 b_W7 m_w3_W7 m_w4_W7 m_W5_W7 m_w6_W7 m_W7_W7
  have z_w8 : gg < w8.heap.size := D_w8.out.lt
  have m_w8_w8 := tRf gg w8
  have HV8 := Lib.hid (show Typ gg w8 S _ from IsTy.good D_w8.out (fun _ h => h) _ ht8)
  clear hb8 ht8
  go_wp2_with fail
  have n_W9 : w8.heap.size ≠ gg := by have := z_w8; omega
  have d_W9 := (Deck.box D_w8.out (Obj.cells #[.int .i64 S.kind, .slice A8 S.args.length c8] 25))
  obtain ⟨a_W9, y_W9, k_W9⟩ := new_blk (Below.refl w8.heap.size w8) (Nat.le_refl _) #[.int .i64 S.kind, .slice A8 S.args.length c8] 25
  generalize w8.alloc (Obj.cells #[.int .i64 S.kind, .slice A8 S.args.length c8] 25) = W9 at a_W9 y_W9 k_W9 d_W9 ⊢
  have s_W9 := (tCa gg a_W9)
  have b_W9 : Below w.heap.size w W9 := b_w8.trans (s_W9.toBelow (fun k hk e => by omega) b_w8.size)
  have m_w3_W9 := m_w3_w8.trans s_W9
  have m_w4_W9 := m_w4_w8.trans s_W9
  have m_W5_W9 := m_W5_w8.trans s_W9
  have m_w6_W9 := m_w6_w8.trans s_W9
  have m_W7_W9 := m_W7_w8.trans s_W9
  have m_w8_W9 := m_w8_w8.trans s_W9
  clear s_W9 b_w8 m_w3_w8 m_w4_w8 m_W5_w8 m_w6_w8 m_W7_w8 m_w8_w8
  have z_W9 : gg < W9.heap.size := by have := z_w8; omega
  have m_W9_W9 := tRf gg W9
  have K_W9 := Lib.hid k_W9
  have D_W9 := Lib.hid d_W9
  clear a_W9 k_W9 y_W9 d_W9
  refine (type_any 1 1 gg W9 (by omega) (by omega) (by omega) D_W9.out).mono ?_
  rintro e w10 ⟨U, x10, rfl, okU, szU, tyU, hd10, hg10⟩
  obtain ⟨A10, c10, rfl⟩ := tyU.form
  have hU3 := type_three szU
  have HU := Lib.hid (And.intro okU (Typ.of tyU z_W9))
  have D_w10 := Lib.hid hd10
  have s_w10 := turn_of hg10
  have b_w10 : Below w.heap.size w w10 := b_W9.trans (s_w10.toBelow (fun k hk e => by omega) b_W9.size)
  have m_w3_w10 := m_w3_W9.trans s_w10
  have m_w4_w10 := m_w4_W9.trans s_w10
  have m_W5_w10 := m_W5_W9.trans s_w10
  have m_w6_w10 := m_w6_W9.trans s_w10
  have m_W7_w10 := m_W7_W9.trans s_w10
  have m_w8_w10 := m_w8_W9.trans s_w10
  have m_W9_w10 := m_W9_W9.trans s_w10
  clear s_w10 b_W9 m_w3_W9 m_w4_W9 m_W5_W9 m_w6_W9 m_W7_W9 m_w8_W9 m_W9_W9
  have z_w10 : gg < w10.heap.size := D_w10.out.lt
  have m_w10_w10 := tRf gg w10
  clear tyU hd10 hg10 okU szU
  go_wp2_with fail
  refine (type_any 1 1 gg w10 (by omega) (by omega) (by omega) D_w10.out).mono ?_
  rintro e w11 ⟨V, x11, rfl, okV, szV, tyV, hd11, hg11⟩
  obtain ⟨A11, c11, rfl⟩ := tyV.form
  have hV3 := type_three szV
  have HV := Lib.hid (And.intro okV (Typ.of tyV z_w10))
  have D_w11 := Lib.hid hd11
  have s_w11 := turn_of hg11
  have b_w11 : Below w.heap.size w w11 := b_w10.trans (s_w11.toBelow (fun k hk e => by omega) b_w10.size)
  have m_w3_w11 := m_w3_w10.trans s_w11
  have m_w4_w11 := m_w4_w10.trans s_w11
  have m_W5_w11 := m_W5_w10.trans s_w11
  have m_w6_w11 := m_w6_w10.trans s_w11
  have m_W7_w11 := m_W7_w10.trans s_w11
  have m_w8_w11 := m_w8_w10.trans s_w11
  have m_W9_w11 := m_W9_w10.trans s_w11
  have m_w10_w11 := m_w10_w10.trans s_w11
  clear s_w11 b_w10 m_w3_w10 m_w4_w10 m_W5_w10 m_w6_w10 m_W7_w10 m_w8_w10 m_W9_w10 m_w10_w10
  have z_w11 : gg < w11.heap.size := D_w11.out.lt
  have m_w11_w11 := tRf gg w11
  clear tyV hd11 hg11 okV szV
  have hch : TyR.Ch (Good (· = gg) w11) w11 [U, V] [.int .i64 U.kind, .slice A10 U.args.length c10, .int .i64 V.kind, .slice A11 V.args.length c11] := Rep.Ch.append (R := TyR) (l := [U]) (Rep.Ch.one (R := TyR) (vs := [.int .i64 U.kind, .slice A10 U.args.length c10]) (Typ.turn HU.out.2 m_w10_w11)) (Rep.Ch.one (R := TyR) (vs := [.int .i64 V.kind, .slice A11 V.args.length c11]) HV.out.2)
  have hown0 := Rep.Own.built (R := TyR) (base := w11.heap.size) hch (fun b h => h.2) (Nat.le_refl _) (by simp [maxLen]) (by simp)
  obtain ⟨xs, hxo, hxc⟩ := hown0
  have HXC := Lib.hid hxc
  obtain ⟨i0, hi, hz0, hz1, hz2⟩ := info_parts info_type
  have HCS := Lib.hid ((Ctx.turn HC3.out m_w3_w11).sl)
  clear hch hxc
  have hsz11 := z_w11
  by_cases hG : G = []
  · subst hG
    have e3 := HGN.out rfl
    simp only [Value.slice.injEq] at e3
    obtain ⟨rfl, _, rfl⟩ := e3
    go_upto_region 11 with ((at_builtin; (refine wpList_append_own_none rfl _ _ 23 rfl w11.heap.size 25 i0 2 Tryd.underlying23 hi (.slice (some ⟨w11.heap.size, 0, none⟩) 2 2) 2 xs rfl hxo rfl ?_)))
    have ho13 : TyR.Own (Good (· = gg) w11) w11.heap.size (.slice (some ⟨w11.heap.size, 0, none⟩) 2 2) ([U, V] ++ []) (w11.alloc (Obj.cells #[.int .i64 U.kind, .slice A10 U.args.length c10, .int .i64 V.kind, .slice A11 V.args.length c11] 25)) := ⟨xs, hxo, HXC.out⟩
    have hb13 := below_box w11 (Obj.cells #[.int .i64 U.kind, .slice A10 U.args.length c10, .int .i64 V.kind, .slice A11 V.args.length c11] 25)
    generalize w11.alloc (Obj.cells #[.int .i64 U.kind, .slice A10 U.args.length c10, .int .i64 V.kind, .slice A11 V.args.length c11] 25) = w13 at ho13 hb13 ⊢
    generalize (Value.slice (some ⟨w11.heap.size, 0, none⟩) 2 2) = v13 at ho13 ⊢
    clear hxo
    have D_w13 := Lib.hid (Deck.call D_w11.out hb13)
    have s_w13 := (tCa gg hb13)
    have b_w13 : Below w.heap.size w w13 := b_w11.trans (s_w13.toBelow (fun k hk e => by omega) b_w11.size)
    have m_w3_w13 := m_w3_w11.trans s_w13
    have m_w4_w13 := m_w4_w11.trans s_w13
    have m_W5_w13 := m_W5_w11.trans s_w13
    have m_w6_w13 := m_w6_w11.trans s_w13
    have m_W7_w13 := m_W7_w11.trans s_w13
    have m_w8_w13 := m_w8_w11.trans s_w13
    have m_W9_w13 := m_W9_w11.trans s_w13
    have m_w10_w13 := m_w10_w11.trans s_w13
    have m_w11_w13 := m_w11_w11.trans s_w13
    clear s_w13 b_w11 m_w3_w11 m_w4_w11 m_W5_w11 m_w6_w11 m_W7_w11 m_w8_w11 m_W9_w11 m_w10_w11 m_w11_w11
    have z_w13 : gg < w13.heap.size := D_w13.out.lt
    have m_w13_w13 := tRf gg w13
    have hl13 := Lib.hid (ho13.sl.keep (S' := (· < w13.heap.size)) (fun b h => h.2) (fun _ _ => rfl))
    obtain ⟨A13, c13, rfl⟩ : ∃ A c, v13 = .slice A (2) c := by obtain ⟨A', c', e'⟩ := ho13.form; exact ⟨A', c', by rw [e']; simp⟩
    obtain ⟨r0, r1, r2, r3, r4, _, _, _, _, _⟩ := (Turn.blk m_W7_w13 K_W7.out n_W7).facts5
    have hm2 := Lib.hid (show ∀ X ∈ [U, V] ++ [], X.ok = true ∧ X.nodes ≤ 3 from fun X hX => by rcases List.mem_append.1 hX with h | h; (simp at h; rcases h with rfl | rfl; exact ⟨HU.out.1, hU3⟩; exact ⟨HV.out.1, hV3⟩); exact absurd h (by simp))
    have hT2 := Lib.hid (typeOf_made (HMT.out.more [U, V]) (Nat.le_trans (bdN_le _ (by simp)) (by omega)) (by simp <;> omega) hm2.out)
    have hGn2 := nodesAll_small hm2.out
    have hln : ([U, V] ++ []).length ≤ 5 := by simp <;> omega
    clear hb13 ho13
    go_wp2_with fail
    refine (typeTop_is (t := T) (g := [U, V] ++ []) hT2.out (HTab.out.after b_w13) (by omega) (by omega) (by omega) (fun e => by simp at e) hl13.out (Trm.below (Trm.turn HTT.out m_w6_w13 z_W5))).mono ?_
    rintro e w14 ⟨v14, rfl, ht14, hb14⟩
    obtain ⟨A14, c14, rfl⟩ := ht14.form
    clear r0 r1 r2 r3 r4
    have D_w14 := Lib.hid (Deck.call D_w13.out hb14)
    have s_w14 := (tCa gg hb14)
    have b_w14 : Below w.heap.size w w14 := b_w13.trans (s_w14.toBelow (fun k hk e => by omega) b_w13.size)
    have m_w3_w14 := m_w3_w13.trans s_w14
    have m_w4_w14 := m_w4_w13.trans s_w14
    have m_W5_w14 := m_W5_w13.trans s_w14
    have m_w6_w14 := m_w6_w13.trans s_w14
    have m_W7_w14 := m_W7_w13.trans s_w14
    have m_w8_w14 := m_w8_w13.trans s_w14
    have m_W9_w14 := m_W9_w13.trans s_w14
    have m_w10_w14 := m_w10_w13.trans s_w14
    have m_w11_w14 := m_w11_w13.trans s_w14
    have m_w13_w14 := m_w13_w13.trans s_w14
    clear s_w14 b_w13 m_w3_w13 m_w4_w13 m_W5_w13 m_w6_w13 m_W7_w13 m_w8_w13 m_W9_w13 m_w10_w13 m_w11_w13 m_w13_w13
    have z_w14 : gg < w14.heap.size := D_w14.out.lt
    have m_w14_w14 := tRf gg w14
    have HV14 := Lib.hid (show Typ gg w14 S _ from IsTy.good D_w14.out (fun _ h => h) _ ht14)
    clear hb14 ht14
    have p0 := fun o => ((Turn.blk m_W9_w14 K_W9.out n_W9).alloc o).facts2.1
    have p1 := fun o => ((Turn.blk m_W9_w14 K_W9.out n_W9).alloc o).facts2.2.1
    have s0 := fun o => ((Turn.blk m_W5_w14 K_W5.out n_W5).alloc o).facts2.1
    have s1 := fun o => ((Turn.blk m_W5_w14 K_W5.out n_W5).alloc o).facts2.2.1
    go_wp2_with fail
    clear p0 p1 s0 s1
    have n_W15 : w14.heap.size ≠ gg := by have := z_w14; omega
    have d_W15 := (Deck.box D_w14.out (Obj.cells #[.int .i64 S.kind, .slice A14 S.args.length c14] 25))
    obtain ⟨a_W15, y_W15, k_W15⟩ := new_blk (Below.refl w14.heap.size w14) (Nat.le_refl _) #[.int .i64 S.kind, .slice A14 S.args.length c14] 25
    generalize w14.alloc (Obj.cells #[.int .i64 S.kind, .slice A14 S.args.length c14] 25) = W15 at a_W15 y_W15 k_W15 d_W15 ⊢
    have s_W15 := (tCa gg a_W15)
    have b_W15 : Below w.heap.size w W15 := b_w14.trans (s_W15.toBelow (fun k hk e => by omega) b_w14.size)
    have m_w3_W15 := m_w3_w14.trans s_W15
    have m_w4_W15 := m_w4_w14.trans s_W15
    have m_W5_W15 := m_W5_w14.trans s_W15
    have m_w6_W15 := m_w6_w14.trans s_W15
    have m_W7_W15 := m_W7_w14.trans s_W15
    have m_w8_W15 := m_w8_w14.trans s_W15
    have m_W9_W15 := m_W9_w14.trans s_W15
    have m_w10_W15 := m_w10_w14.trans s_W15
    have m_w11_W15 := m_w11_w14.trans s_W15
    have m_w13_W15 := m_w13_w14.trans s_W15
    have m_w14_W15 := m_w14_w14.trans s_W15
    clear s_W15 b_w14 m_w3_w14 m_w4_w14 m_W5_w14 m_w6_w14 m_W7_w14 m_w8_w14 m_W9_w14 m_w10_w14 m_w11_w14 m_w13_w14 m_w14_w14
    have z_W15 : gg < W15.heap.size := by have := z_w14; omega
    have m_W15_W15 := tRf gg W15
    have K_W15 := Lib.hid k_W15
    have D_W15 := Lib.hid d_W15
    clear a_W15 k_W15 y_W15 d_W15
    refine (refSame_is true (eqb_self S) (by omega) (by omega) (Typ.below (Typ.turn HV8.out m_w8_W15)) (Typ.below (Typ.turn HS4.out m_w4_W15))).mono ?_
    rintro e w16 ⟨rfl, hb16⟩
    have D_w16 := Lib.hid (Deck.call D_W15.out hb16)
    have s_w16 := (tCa gg hb16)
    have b_w16 : Below w.heap.size w w16 := b_W15.trans (s_w16.toBelow (fun k hk e => by omega) b_W15.size)
    have m_w3_w16 := m_w3_W15.trans s_w16
    have m_w4_w16 := m_w4_W15.trans s_w16
    have m_W5_w16 := m_W5_W15.trans s_w16
    have m_w6_w16 := m_w6_W15.trans s_w16
    have m_W7_w16 := m_W7_W15.trans s_w16
    have m_w8_w16 := m_w8_W15.trans s_w16
    have m_W9_w16 := m_W9_W15.trans s_w16
    have m_w10_w16 := m_w10_W15.trans s_w16
    have m_w11_w16 := m_w11_W15.trans s_w16
    have m_w13_w16 := m_w13_W15.trans s_w16
    have m_w14_w16 := m_w14_W15.trans s_w16
    have m_W15_w16 := m_W15_W15.trans s_w16
    clear s_w16 b_W15 m_w3_W15 m_w4_W15 m_W5_W15 m_w6_W15 m_W7_W15 m_w8_W15 m_W9_W15 m_w10_W15 m_w11_W15 m_w13_W15 m_w14_W15 m_W15_W15
    have z_w16 : gg < w16.heap.size := D_w16.out.lt
    clear hb16
    obtain ⟨p0, p1, _, _⟩ := (Turn.blk m_W15_w16 K_W15.out n_W15).facts2
    obtain ⟨s0, s1, _, _⟩ := (Turn.blk m_W5_w16 K_W5.out n_W5).facts2
    go_wp2_with fail
    refine (refSame_is true (eqb_self S) (by omega) (by omega) (Typ.below (Typ.turn HV14.out m_w14_w16)) (Typ.below (Typ.turn HS4.out m_w4_w16))).mono ?_
    rintro e w17 ⟨rfl, hb17⟩
    go_wp2_with fail
    go_ret
    exact ⟨rfl, b_w16.trans (hb17.mono b_w16.size)⟩
  · have hcs := HCS.out
    obtain ⟨A', c', e', hcs⟩ := hcs
    simp only [Value.slice.injEq] at e'
    obtain ⟨rfl, _, rfl⟩ := e'
    obtain ⟨b, rfl, hSb, hab⟩ := hcs hG
    obtain ⟨ys, hyc, hyl⟩ := hab.cells
    have hyn : ys.length = G.length * 2 := hyc.1
    have HYL := Lib.hid (show ∀ j u, ys[j]? = some u → (w11.alloc (Obj.cells #[.int .i64 U.kind, .slice A10 U.args.length c10, .int .i64 V.kind, .slice A11 V.args.length c11] 25)).cell? (b.add j) = some u from fun j u hu => (World.cell?_alloc_lt _ _ _ (by rw [add_block]; exact hSb.2)).trans (hyl j u hu))
    have HYC := Lib.hid hyc
    clear hab hyl hyc
    go_upto_region 11 with ((at_builtin; go_loud (refine wpList_append_own_at _ rfl _ _ 23 rfl w11.heap.size 25 i0 _ 2 32 Tryd.underlying23 hi hz0 hz1 hz2 rfl (by decide) (.slice (some ⟨w11.heap.size, 0, none⟩) 2 2) 2 xs rfl hxo b G.length _ ys rfl hyn HYL.out HYC.out.oneCells (by simp only [maxLen]; omega) (by omega) (by simp) ?_); intro v13 w13 hown2 hg2 hnil2 hat2))
    have ho13 : TyR.Own (Good (· = gg) w11) w11.heap.size v13 ([U, V] ++ G) w13 := Rep.Own.more (R := TyR) (l := [U, V]) hxo HXC.out (HYC.out.keep (fun b hb => ⟨hb, by have := hb.2; simp; omega, by intro e; have := hb.2; simp [Value.ownBlock] at e; omega⟩) (fun p hp => World.cell?_alloc_lt _ _ _ hp.2)) hown2 hg2 hat2
    have hb13 : Below w11.heap.size w11 w13 := (below_box w11 (Obj.cells #[.int .i64 U.kind, .slice A10 U.args.length c10, .int .i64 V.kind, .slice A11 V.args.length c11] 25)).grown hg2 (by simp) (fun k e => by simp [Value.ownBlock] at e; omega)
    clear hown2 hg2 hnil2 hat2 hxo
    have D_w13 := Lib.hid (Deck.call D_w11.out hb13)
    have s_w13 := (tCa gg hb13)
    have b_w13 : Below w.heap.size w w13 := b_w11.trans (s_w13.toBelow (fun k hk e => by omega) b_w11.size)
    have m_w3_w13 := m_w3_w11.trans s_w13
    have m_w4_w13 := m_w4_w11.trans s_w13
    have m_W5_w13 := m_W5_w11.trans s_w13
    have m_w6_w13 := m_w6_w11.trans s_w13
    have m_W7_w13 := m_W7_w11.trans s_w13
    have m_w8_w13 := m_w8_w11.trans s_w13
    have m_W9_w13 := m_W9_w11.trans s_w13
    have m_w10_w13 := m_w10_w11.trans s_w13
    have m_w11_w13 := m_w11_w11.trans s_w13
    clear s_w13 b_w11 m_w3_w11 m_w4_w11 m_W5_w11 m_w6_w11 m_W7_w11 m_w8_w11 m_W9_w11 m_w10_w11 m_w11_w11
    have z_w13 : gg < w13.heap.size := D_w13.out.lt
    have m_w13_w13 := tRf gg w13
    have hl13 := Lib.hid (ho13.sl.keep (S' := (· < w13.heap.size)) (fun b h => h.2) (fun _ _ => rfl))
    obtain ⟨A13, c13, rfl⟩ : ∃ A c, v13 = .slice A (G.length + 2) c := by obtain ⟨A', c', e'⟩ := ho13.form; exact ⟨A', c', by rw [e']; simp⟩
    obtain ⟨r0, r1, r2, r3, r4, _, _, _, _, _⟩ := (Turn.blk m_W7_w13 K_W7.out n_W7).facts5
    have hm2 := Lib.hid (show ∀ X ∈ [U, V] ++ G, X.ok = true ∧ X.nodes ≤ 3 from fun X hX => by rcases List.mem_append.1 hX with h | h; (simp at h; rcases h with rfl | rfl; exact ⟨HU.out.1, hU3⟩; exact ⟨HV.out.1, hV3⟩); exact HGO.out X h)
    have hT2 := Lib.hid (typeOf_made (HMT.out.more [U, V]) (Nat.le_trans (bdN_le _ (by simp)) (by omega)) (by simp <;> omega) hm2.out)
    have hGn2 := nodesAll_small hm2.out
    have hln : ([U, V] ++ G).length ≤ 5 := by simp <;> omega
    clear hb13 ho13
    go_wp2_with fail
    refine (typeTop_is (t := T) (g := [U, V] ++ G) hT2.out (HTab.out.after b_w13) (by omega) (by omega) (by omega) (fun e => by simp at e) hl13.out (Trm.below (Trm.turn HTT.out m_w6_w13 z_W5))).mono ?_
    rintro e w14 ⟨v14, rfl, ht14, hb14⟩
    obtain ⟨A14, c14, rfl⟩ := ht14.form
    clear r0 r1 r2 r3 r4
    have D_w14 := Lib.hid (Deck.call D_w13.out hb14)
    have s_w14 := (tCa gg hb14)
    have b_w14 : Below w.heap.size w w14 := b_w13.trans (s_w14.toBelow (fun k hk e => by omega) b_w13.size)
    have m_w3_w14 := m_w3_w13.trans s_w14
    have m_w4_w14 := m_w4_w13.trans s_w14
    have m_W5_w14 := m_W5_w13.trans s_w14
    have m_w6_w14 := m_w6_w13.trans s_w14
    have m_W7_w14 := m_W7_w13.trans s_w14
    have m_w8_w14 := m_w8_w13.trans s_w14
    have m_W9_w14 := m_W9_w13.trans s_w14
    have m_w10_w14 := m_w10_w13.trans s_w14
    have m_w11_w14 := m_w11_w13.trans s_w14
    have m_w13_w14 := m_w13_w13.trans s_w14
    clear s_w14 b_w13 m_w3_w13 m_w4_w13 m_W5_w13 m_w6_w13 m_W7_w13 m_w8_w13 m_W9_w13 m_w10_w13 m_w11_w13 m_w13_w13
    have z_w14 : gg < w14.heap.size := D_w14.out.lt
    have m_w14_w14 := tRf gg w14
    have HV14 := Lib.hid (show Typ gg w14 S _ from IsTy.good D_w14.out (fun _ h => h) _ ht14)
    clear hb14 ht14
    have p0 := fun o => ((Turn.blk m_W9_w14 K_W9.out n_W9).alloc o).facts2.1
    have p1 := fun o => ((Turn.blk m_W9_w14 K_W9.out n_W9).alloc o).facts2.2.1
    have s0 := fun o => ((Turn.blk m_W5_w14 K_W5.out n_W5).alloc o).facts2.1
    have s1 := fun o => ((Turn.blk m_W5_w14 K_W5.out n_W5).alloc o).facts2.2.1
    go_wp2_with fail
    clear p0 p1 s0 s1
    have n_W15 : w14.heap.size ≠ gg := by have := z_w14; omega
    have d_W15 := (Deck.box D_w14.out (Obj.cells #[.int .i64 S.kind, .slice A14 S.args.length c14] 25))
    obtain ⟨a_W15, y_W15, k_W15⟩ := new_blk (Below.refl w14.heap.size w14) (Nat.le_refl _) #[.int .i64 S.kind, .slice A14 S.args.length c14] 25
    generalize w14.alloc (Obj.cells #[.int .i64 S.kind, .slice A14 S.args.length c14] 25) = W15 at a_W15 y_W15 k_W15 d_W15 ⊢
    have s_W15 := (tCa gg a_W15)
    have b_W15 : Below w.heap.size w W15 := b_w14.trans (s_W15.toBelow (fun k hk e => by omega) b_w14.size)
    have m_w3_W15 := m_w3_w14.trans s_W15
    have m_w4_W15 := m_w4_w14.trans s_W15
    have m_W5_W15 := m_W5_w14.trans s_W15
    have m_w6_W15 := m_w6_w14.trans s_W15
    have m_W7_W15 := m_W7_w14.trans s_W15
    have m_w8_W15 := m_w8_w14.trans s_W15
    have m_W9_W15 := m_W9_w14.trans s_W15
    have m_w10_W15 := m_w10_w14.trans s_W15
    have m_w11_W15 := m_w11_w14.trans s_W15
    have m_w13_W15 := m_w13_w14.trans s_W15
    have m_w14_W15 := m_w14_w14.trans s_W15
    clear s_W15 b_w14 m_w3_w14 m_w4_w14 m_W5_w14 m_w6_w14 m_W7_w14 m_w8_w14 m_W9_w14 m_w10_w14 m_w11_w14 m_w13_w14 m_w14_w14
    have z_W15 : gg < W15.heap.size := by have := z_w14; omega
    have m_W15_W15 := tRf gg W15
    have K_W15 := Lib.hid k_W15
    have D_W15 := Lib.hid d_W15
    clear a_W15 k_W15 y_W15 d_W15
    refine (refSame_is true (eqb_self S) (by omega) (by omega) (Typ.below (Typ.turn HV8.out m_w8_W15)) (Typ.below (Typ.turn HS4.out m_w4_W15))).mono ?_
    rintro e w16 ⟨rfl, hb16⟩
    have D_w16 := Lib.hid (Deck.call D_W15.out hb16)
    have s_w16 := (tCa gg hb16)
    have b_w16 : Below w.heap.size w w16 := b_W15.trans (s_w16.toBelow (fun k hk e => by omega) b_W15.size)
    have m_w3_w16 := m_w3_W15.trans s_w16
    have m_w4_w16 := m_w4_W15.trans s_w16
    have m_W5_w16 := m_W5_W15.trans s_w16
    have m_w6_w16 := m_w6_W15.trans s_w16
    have m_W7_w16 := m_W7_W15.trans s_w16
    have m_w8_w16 := m_w8_W15.trans s_w16
    have m_W9_w16 := m_W9_W15.trans s_w16
    have m_w10_w16 := m_w10_W15.trans s_w16
    have m_w11_w16 := m_w11_W15.trans s_w16
    have m_w13_w16 := m_w13_W15.trans s_w16
    have m_w14_w16 := m_w14_W15.trans s_w16
    have m_W15_w16 := m_W15_W15.trans s_w16
    clear s_w16 b_W15 m_w3_W15 m_w4_W15 m_W5_W15 m_w6_W15 m_W7_W15 m_w8_W15 m_W9_W15 m_w10_W15 m_w11_W15 m_w13_W15 m_w14_W15 m_W15_W15
    have z_w16 : gg < w16.heap.size := D_w16.out.lt
    clear hb16
    obtain ⟨p0, p1, _, _⟩ := (Turn.blk m_W15_w16 K_W15.out n_W15).facts2
    obtain ⟨s0, s1, _, _⟩ := (Turn.blk m_W5_w16 K_W5.out n_W5).facts2
    go_wp2_with fail
    refine (refSame_is true (eqb_self S) (by omega) (by omega) (Typ.below (Typ.turn HV14.out m_w14_w16)) (Typ.below (Typ.turn HS4.out m_w4_w16))).mono ?_
    rintro e w17 ⟨rfl, hb17⟩
    go_wp2_with fail
    go_ret
    exact ⟨rfl, b_w16.trans (hb17.mono b_w16.size)⟩
end Go.Proofs.YtcidmhjojkongaaDoor
