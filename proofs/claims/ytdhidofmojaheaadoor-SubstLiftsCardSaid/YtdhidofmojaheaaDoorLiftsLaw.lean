/- The walk of the law on lifting and lowering. -/
import Derived.Test.YtdhidofmojaheaaDoorPackEndL
import Derived.Test.YtdhidofmojaheaaDoorLiftsKit
import Derived.IntWalk
namespace Go.Proofs.YtdhidofmojaheaaDoor
open Go.RowKit

theorem bd_small3 (t : Ty) : bdN 3 t ≤ 276 := by unfold bdN; split <;> decide

set_option maxRecDepth 100000 in
set_option maxHeartbeats 8000000 in
theorem liftsLaw_small (A : Option Addr) (len cap : Nat) (u1 u2 u3 : Int) (w : World) (htab : Tab w) (hlen : len ≤ 500) (hu1 : 0 ≤ u1 ∧ u1 < 256) (hu2 : 0 ≤ u2 ∧ u2 < 256) (hu3 : 0 ≤ u3 ∧ u3 < 256) (hA : ∀ i, i < len → ∃ a x, A = some a ∧ a.block < w.heap.size ∧ w.cell? (a.add i) = some (.int .i64 x)) :
    Calls Tryd.prog 7 #[.slice A len cap, .int .u8 u1, .int .u8 u2, .int .u8 u3] w fun e w' => e = .returned (.bool true) ∧ Below w.heap.size w w' := by
  have hA' := Lib.hid hA
  have HTab := Lib.hid htab
  clear hA htab
  have e500 : decide ((len : Int) ≤ 500) = true := by simp; omega
  go_enter Tryd.func7, Tryd.ntmps7
  go_wp2_with fail
  refine (saneS_any w HTab.out).mono ?_
  rintro e w1 ⟨rfl, hb1⟩
  go_wp2_with fail
  refine (few_any A len cap w1 (by simp only [maxLen]; omega)).mono ?_
  rintro e w1' ⟨rfl, rfl⟩
  rw [e500]
  go_wp2_with fail
  have hA1 : ∀ i, i < len → ∃ a x, A = some a ∧ a.block < w1.heap.size ∧ w1.cell? (a.add i) = some (.int .i64 x) := fun i hi => by
    obtain ⟨a, x, h1, h2, h3⟩ := hA'.out i hi
    exact ⟨a, x, h1, Nat.lt_of_lt_of_le h2 hb1.size, (hb1.cell (by rw [add_block]; exact h2)).trans h3⟩
  refine (new_any A len cap w1 hlen hA1).mono ?_
  rintro e w2 ⟨rfl, hw2⟩
  have hd2 := new_deck A len cap w1 hlen hA1
  rw [hw2] at hd2
  have b_w2 : Below w.heap.size w w2 := by rw [← hw2]; exact hb1.alloc hb1.size _
  have hgw : w.heap.size ≤ w1.heap.size := hb1.size
  clear hw2 hA1 hb1
  generalize w1.heap.size = gg at hd2 hgw ⊢
  have z_w2 := hd2.lt
  have HD2 := Lib.hid hd2
  clear hd2
  go_wp2_with fail
  refine (mkContext_any gg w2 HD2.out).mono ?_
  rintro e w3 ⟨G, v, rfl, hG3, hGok, hGs, hGf, hGnil, hd3, hg3⟩
  obtain ⟨A3, c3, rfl⟩ := hGs.form
  have HD3 := Lib.hid hd3
  have HC3 := Lib.hid (show Ctx gg w3 G (.slice A3 G.length c3) from ⟨hGs.keep (fun b hb => ⟨by have := hb.1; omega, hb.2⟩) (fun _ _ => rfl), hGf, hGok⟩)
  have HGN := Lib.hid hGnil
  have HGO := Lib.hid hGok
  have s_w3 := turn_of hg3
  have b_w3 : Below w.heap.size w w3 := b_w2.trans (s_w3.toBelow (fun k hk e => by omega) b_w2.size)
  clear s_w3 b_w2 
  have z_w3 : gg < w3.heap.size := HD3.out.lt
  have m_w3_w3 := tRf gg w3
  clear hg3 hd3 hGs hGf hGnil hGok
  go_wp2_with fail
  refine (type_any 1 1 gg w3 (by omega) (by omega) (by omega) HD3.out).mono ?_
  rintro e w4 ⟨S, x4, rfl, okS, szS, tyS, hd4, hg4⟩
  obtain ⟨A4, c4, rfl⟩ := tyS.form
  have nS := type_three szS
  have HS := Lib.hid (And.intro okS (Typ.of tyS z_w3))
  have D_w4 := Lib.hid hd4
  have s_w4 := turn_of hg4
  have b_w4 : Below w.heap.size w w4 := b_w3.trans (s_w4.toBelow (fun k hk e => by omega) b_w3.size)
  have m_w3_w4 := m_w3_w3.trans s_w4
  clear s_w4 b_w3 m_w3_w3
  have z_w4 : gg < w4.heap.size := D_w4.out.lt
  have m_w4_w4 := tRf gg w4
  clear tyS hd4 hg4 okS szS
  go_wp2_with fail
  refine (term_any gg (4 * 3 + S.nodes + 1) G S 3 _ _ w4 (by simp) (by omega) (by omega) (by simp; omega) HS.out.1 nS (Ctx.turn HC3.out m_w3_w4) (Typ.turn HS.out.2 m_w4_w4) D_w4.out).mono ?_
  rintro e w5 ⟨X, v5, rfl, mX, tX, hd5, ht5⟩
  obtain ⟨B5, e5, A5, c5, rfl, _⟩ := IsTm.form tX
  have sX : X.size ≤ 276 := Nat.le_trans mX.size (bd_small3 S)
  have HMX := Lib.hid mX
  have bX : X.bulk ≤ 12000 := mX.bulk_le (bdN_le _ (by simp))
  have HTX := Lib.hid (show Trm w4.heap.size w5 X _ from tX)
  have D_w5 := Lib.hid hd5
  have s_w5 := ht5
  have b_w5 : Below w.heap.size w w5 := b_w4.trans (s_w5.toBelow (fun k hk e => by omega) b_w4.size)
  have m_w3_w5 := m_w3_w4.trans s_w5
  have m_w4_w5 := m_w4_w4.trans s_w5
  clear s_w5 b_w4 m_w3_w4 m_w4_w4
  have z_w5 : gg < w5.heap.size := D_w5.out.lt
  have m_w5_w5 := tRf gg w5
  clear tX hd5 ht5 mX
  have hgw' : w.heap.size ≤ gg := hgw
  have hlX : X.low 1000 = true := low_mono (by have := sX; simp; omega) X (typ_low X G HMX.out.ok HMX.out.typ)
  have hfX : Few1 X := ⟨errT_zero.2 ⟨HMX.out.ok, by omega⟩, bX, low_mono (by omega) X hlX⟩
  have HX := Lib.hid (And.intro HMX.out.ok (And.intro hlX hfX))
  have X5 := Lib.hid (show IsTm (· < w5.heap.size) w5 X _ from IsTm.keep (fun b h => h.2) (fun _ _ => rfl) _ HTX.out)
  have BW := Lib.hid b_w5
  have T5 := Lib.hid (HTab.out.after BW.out)
  have hw5 := BW.out.size
  obtain ⟨a, ha⟩ : ∃ a : Nat, (a : Int) = u1 % 5 := ⟨(u1 % 5).toNat, by omega⟩
  obtain ⟨n, hn⟩ : ∃ n : Nat, (n : Int) = u2 % 5 := ⟨(u2 % 5).toNat, by omega⟩
  obtain ⟨m, hm⟩ : ∃ m : Nat, (m : Int) = u3 % 5 := ⟨(u3 % 5).toNat, by omega⟩
  have ha4 : a ≤ 4 := by omega
  have hn4 : n ≤ 4 := by omega
  have hm4 : m ≤ 4 := by omega
  have HU := Lib.hid (And.intro ha (And.intro hn hm))
  obtain ⟨P, hP⟩ : ∃ P, X.lift a 1 = P := ⟨_, rfl⟩
  obtain ⟨C, hC⟩ : ∃ C, X.lift a n = C := ⟨_, rfl⟩
  obtain ⟨O, hO⟩ : ∃ O, X.lift a (n + m) = O := ⟨_, rfl⟩
  have hCO : C.lift a m = O := by rw [← hC, ← hO]; exact lift_merge X a n 0 m HMX.out.ok (Nat.zero_le _)
  have hfP : Few1 P := by rw [← hP]; exact lift_few hfX hlX (by omega)
  have hfC : Few1 C := by rw [← hC]; exact lift_few hfX hlX (by omega)
  have hfO : Few1 O := by rw [← hO]; exact lift_few hfX hlX (by omega)
  have HP := Lib.hid (And.intro hP hfP)
  have HC := Lib.hid (And.intro hC (And.intro hCO hfC))
  have HO := Lib.hid (And.intro hO hfO)
  clear ha hn hm hlX hfX hP hC hO hCO hfP hfC hfO b_w5 m_w3_w5 m_w4_w5 m_w5_w5
  go_upto_region 8 with fail
  obtain ⟨b6, z6, k6⟩ := new_blk (Below.refl w5.heap.size w5) (Nat.le_refl _) #[.int .i64 X.kind, .int .i64 X.index, .int .i64 X.type.kind, .slice B5 X.type.args.length e5, .slice A5 X.args.length c5] 34
  generalize w5.alloc (Obj.cells #[.int .i64 X.kind, .int .i64 X.index, .int .i64 X.type.kind, .slice B5 X.type.args.length e5, .slice A5 X.args.length c5] 34) = W6 at b6 z6 k6 ⊢
  have hz6 : w5.heap.size < W6.heap.size := by omega
  have N6 := Lib.hid b6
  have K6 := Lib.hid k6
  have X6 := Lib.hid fun (w' : World) (h : Below W6.heap.size W6 w') => IsTm.keep (S' := (· < w5.heap.size)) (w' := w') (fun _ h => h) (fun p hp => (h.cell (by have h' : p.block < w5.heap.size := hp; omega)).trans (N6.out.cell hp)) _ X5.out
  have T6 := Lib.hid fun (w' : World) (h : Below W6.heap.size W6 w') => ((T5.out.after N6.out).after h)
  clear b6 k6 z6
  go_upto_region 9 with fail
  rw [← HU.out.1, ← HU.out.2.1, ← HU.out.2.2]
  obtain ⟨r0, r1, r2, r3, r4, _, _, _, _, _⟩ := K6.out.facts5
  go_wp2_with fail
  refine (lift_is (S := (· < w5.heap.size)) HP.out.1 rfl (by decide) (by omega) (by omega) HX.out.2.2 (T6.out W6 (Below.refl _ _)) (fun b h => Nat.lt_trans h hz6) (X6.out W6 (Below.refl _ _))).mono ?_
  rintro e w7 ⟨B8, A8, d8, c8, rfl, tP, b7⟩
  have hz7 := b7.size
  have E7 := Lib.hid b7
  have TP := Lib.hid tP
  clear tP b7 r0 r1 r2 r3 r4
  go_upto_region 10 with fail
  obtain ⟨b8, z8, k8⟩ := new_blk (Below.refl w7.heap.size w7) (Nat.le_refl _) #[.int .i64 P.kind, .int .i64 P.index, .int .i64 P.type.kind, .slice B8 P.type.args.length d8, .slice A8 P.args.length c8] 34
  generalize w7.alloc (Obj.cells #[.int .i64 P.kind, .int .i64 P.index, .int .i64 P.type.kind, .slice B8 P.type.args.length d8, .slice A8 P.args.length c8] 34) = W8 at b8 z8 k8 ⊢
  have hz8 : w7.heap.size < W8.heap.size := by omega
  have N8 := Lib.hid b8
  have K8 := Lib.hid k8
  clear b8 k8 z8
  have E8 := Lib.hid (E7.out.trans (N8.out.mono hz7))
  obtain ⟨r0, r1, r2, r3, r4, _, _, _, _, _⟩ := K8.out.facts5
  go_wp2_with fail
  refine (lower_is (S := (· < w7.heap.size)) HX.out.1 HP.out.1 (by omega) HP.out.2 (T6.out W8 E8.out) (fun b h => Nat.lt_trans h hz8) (IsTm.keep (fun b h => h.2) (fun p hp => N8.out.cell hp.2) _ TP.out)).mono ?_
  rintro e w9 ⟨B10, A10, d10, c10, rfl, tB, b9⟩
  have hz9 := b9.size
  have E9 := Lib.hid (E8.out.trans (b9.mono (by omega)))
  have TB := Lib.hid tB
  clear tB b9 r0 r1 r2 r3 r4
  go_upto_region 11 with fail
  obtain ⟨b10, z10, k10⟩ := new_blk (Below.refl w9.heap.size w9) (Nat.le_refl _) #[.int .i64 X.kind, .int .i64 X.index, .int .i64 X.type.kind, .slice B10 X.type.args.length d10, .slice A10 X.args.length c10] 34
  generalize w9.alloc (Obj.cells #[.int .i64 X.kind, .int .i64 X.index, .int .i64 X.type.kind, .slice B10 X.type.args.length d10, .slice A10 X.args.length c10] 34) = W10 at b10 z10 k10 ⊢
  have hz10 : w9.heap.size < W10.heap.size := by omega
  have N10 := Lib.hid b10
  have K10 := Lib.hid k10
  clear b10 k10 z10
  have E10 := Lib.hid (E9.out.trans (N10.out.mono (by omega)))
  obtain ⟨r0, r1, r2, r3, r4, _, _, _, _, _⟩ := (K6.out.below E10.out K6.out.lt).facts5
  go_wp2_with fail
  refine (lift_is (S := (· < w5.heap.size)) HC.out.1 rfl rfl (by omega) (by omega) HX.out.2.2 (T6.out W10 E10.out) (fun b h => by omega) (X6.out W10 E10.out)).mono ?_
  rintro e w11 ⟨B12, A12, d12, c12, rfl, tC, b11⟩
  have hz11 := b11.size
  have E11 := Lib.hid (E10.out.trans (b11.mono (by omega)))
  have D11 := Lib.hid b11
  have TC := Lib.hid tC
  clear tC b11 r0 r1 r2 r3 r4
  go_upto_region 12 with fail
  obtain ⟨b12, z12, k12⟩ := new_blk (Below.refl w11.heap.size w11) (Nat.le_refl _) #[.int .i64 C.kind, .int .i64 C.index, .int .i64 C.type.kind, .slice B12 C.type.args.length d12, .slice A12 C.args.length c12] 34
  generalize w11.alloc (Obj.cells #[.int .i64 C.kind, .int .i64 C.index, .int .i64 C.type.kind, .slice B12 C.type.args.length d12, .slice A12 C.args.length c12] 34) = W12 at b12 z12 k12 ⊢
  have hz12 : w11.heap.size < W12.heap.size := by omega
  have N12 := Lib.hid b12
  have K12 := Lib.hid k12
  clear b12 k12 z12
  have E12 := Lib.hid (E11.out.trans (N12.out.mono (by omega)))
  have D12 := Lib.hid (D11.out.trans (N12.out.mono (by omega)))
  obtain ⟨r0, r1, r2, r3, r4, _, _, _, _, _⟩ := K12.out.facts5
  go_wp2_with fail
  refine (lift_is (S := (· < w11.heap.size)) HC.out.2.1 rfl rfl (by omega) (by omega) HC.out.2.2 (T6.out W12 E12.out) (fun b h => Nat.lt_trans h hz12) (IsTm.keep (fun b h => h.2) (fun p hp => N12.out.cell hp.2) _ TC.out)).mono ?_
  rintro e w13 ⟨B14, A14, d14, c14, rfl, tD, b13⟩
  have hz13 := b13.size
  have E13 := Lib.hid (E12.out.trans (b13.mono (by omega)))
  have D13 := Lib.hid (D12.out.trans (b13.mono (by omega)))
  have TD := Lib.hid tD
  have k12' := K12.out.below b13 K12.out.lt
  clear tD b13 r0 r1 r2 r3 r4
  obtain ⟨r0, r1, r2, r3, r4, g0, g1, g2, g3, g4⟩ := k12'.facts5
  have hg5 := only_set5 w13 w11.heap.size (.int .i64 O.kind) (.int .i64 O.index) (.int .i64 O.type.kind) (.slice B14 O.type.args.length d14) (.slice A14 O.args.length c14)
  have K14 := Lib.hid (k12'.set5 (.int .i64 O.kind) (.int .i64 O.index) (.int .i64 O.type.kind) (.slice B14 O.type.args.length d14) (.slice A14 O.args.length c14))
  have TD14 := Lib.hid (show IsTm (fun b => b ≠ w11.heap.size ∧ b < (((((w13.setCell ⟨w11.heap.size, 0, none⟩ (.int .i64 O.kind)).setCell ⟨w11.heap.size, 1, none⟩ (.int .i64 O.index)).setCell ⟨w11.heap.size, 2, none⟩ (.int .i64 O.type.kind)).setCell ⟨w11.heap.size, 3, none⟩ (.slice B14 O.type.args.length d14)).setCell ⟨w11.heap.size, 4, none⟩ (.slice A14 O.args.length c14)).heap.size) _ O _ from
    IsTm.keep (fun b h => ⟨h.1.elim (fun h => by omega) (fun h => by omega), Nat.lt_of_lt_of_le h.2 hg5.size⟩) (fun p hp => World.cell?_of_block (hg5.block p.block hp.2 (fun e => by
      have e' : p.block = w11.heap.size := by simpa using e
      exact hp.1.elim (fun h => by omega) (fun h => by omega)))) _ TD.out)
  have G14 := Lib.hid hg5
  clear hg5 k12'
  have hzE : W6.heap.size ≤ w11.heap.size := by omega
  have hzD : W10.heap.size ≤ w11.heap.size := by omega
  have E14 := Lib.hid (((((E13.out.setCell (p := ⟨w11.heap.size, 0, none⟩) hzE (.int .i64 O.kind)).setCell (p := ⟨w11.heap.size, 1, none⟩) hzE (.int .i64 O.index)).setCell (p := ⟨w11.heap.size, 2, none⟩) hzE (.int .i64 O.type.kind)).setCell (p := ⟨w11.heap.size, 3, none⟩) hzE (.slice B14 O.type.args.length d14)).setCell (p := ⟨w11.heap.size, 4, none⟩) hzE (.slice A14 O.args.length c14))
  have D14 := Lib.hid (((((D13.out.setCell (p := ⟨w11.heap.size, 0, none⟩) hzD (.int .i64 O.kind)).setCell (p := ⟨w11.heap.size, 1, none⟩) hzD (.int .i64 O.index)).setCell (p := ⟨w11.heap.size, 2, none⟩) hzD (.int .i64 O.type.kind)).setCell (p := ⟨w11.heap.size, 3, none⟩) hzD (.slice B14 O.type.args.length d14)).setCell (p := ⟨w11.heap.size, 4, none⟩) hzD (.slice A14 O.args.length c14))
  have hz14 := G14.out.size
  go_upto_region 13 with fail
  clear r0 r1 r2 r3 r4 g0 g1 g2 g3 g4
  generalize (((((w13.setCell ⟨w11.heap.size, 0, none⟩ (.int .i64 O.kind)).setCell ⟨w11.heap.size, 1, none⟩ (.int .i64 O.index)).setCell ⟨w11.heap.size, 2, none⟩ (.int .i64 O.type.kind)).setCell ⟨w11.heap.size, 3, none⟩ (.slice B14 O.type.args.length d14)).setCell ⟨w11.heap.size, 4, none⟩ (.slice A14 O.args.length c14)) = W14 at K14 TD14 G14 E14 D14 hz14 ⊢
  have XX := Lib.hid (X6.out W14 E14.out)
  have XB := Lib.hid (show IsTm (· < w9.heap.size) W14 X _ from IsTm.keep (fun b h => h.2) (fun p hp => (D14.out.cell (by have h' : p.block < w9.heap.size := hp.2; omega)).trans (N10.out.cell hp.2)) _ TB.out)
  have KX := Lib.hid (K6.out.below E14.out K6.out.lt)
  have KB := Lib.hid (K10.out.below D14.out K10.out.lt)
  have hnm : IntKind.i64.wrap ((n : Int) + (m : Int)) = (n : Int) + (m : Int) := IntWalk.i64_in _ (by omega)
  obtain ⟨r0, r1, r2, r3, r4, _, _, _, _, _⟩ := KX.out.facts5
  go_wp2_with fail
  refine (lift_is (n := n + m) (S := (· < w5.heap.size)) HO.out.1 rfl (by omega) (by omega) (by omega) HX.out.2.2 (T6.out W14 E14.out) (fun b h => by omega) XX.out).mono ?_
  rintro e w15 ⟨B16, A16, d16, c16, rfl, tO, b15⟩
  have hz15 := b15.size
  have E15 := Lib.hid (E14.out.trans (b15.mono (by omega)))
  have F15 := Lib.hid b15
  have TO := Lib.hid tO
  clear tO b15 r0 r1 r2 r3 r4
  go_upto_region 14 with fail
  obtain ⟨b16, z16, k16⟩ := new_blk (Below.refl w15.heap.size w15) (Nat.le_refl _) #[.int .i64 O.kind, .int .i64 O.index, .int .i64 O.type.kind, .slice B16 O.type.args.length d16, .slice A16 O.args.length c16] 34
  generalize w15.alloc (Obj.cells #[.int .i64 O.kind, .int .i64 O.index, .int .i64 O.type.kind, .slice B16 O.type.args.length d16, .slice A16 O.args.length c16] 34) = W16 at b16 z16 k16 ⊢
  have hz16 : w15.heap.size < W16.heap.size := by omega
  have N16 := Lib.hid b16
  have K16 := Lib.hid k16
  clear b16 k16 z16
  have E16 := Lib.hid (E15.out.trans (N16.out.mono (by omega)))
  have F16 := Lib.hid (F15.out.trans (N16.out.mono (by omega)))
  obtain ⟨r0, r1, r2, r3, r4, _, _, _, _, _⟩ := (K6.out.below E16.out K6.out.lt).facts5
  go_wp2_with fail
  refine (uses_any X _ W16 (by have := HX.out.2.2.2.1; omega) HX.out.2.2.1 (low_mono (by omega) _ HX.out.2.2.2.2) (T6.out W16 E16.out) (IsTm.keep (fun b h => by have h' : b < w5.heap.size := h; omega) (fun _ _ => rfl) _ (X6.out W16 E16.out))).mono ?_
  rintro e w17 ⟨s1, L1, rfl, uL1, own1, b17⟩
  have hz17 := b17.size
  have E17 := Lib.hid (E16.out.trans (b17.mono (by omega)))
  have F17 := Lib.hid (F16.out.trans (b17.mono (by omega)))
  have J17 := Lib.hid b17
  have U1 := Lib.hid uL1
  obtain ⟨P1, cp1, rfl, hl1, row1⟩ := row_form own1
  have R1 := Lib.hid row1
  clear uL1 own1 row1 b17 r0 r1 r2 r3 r4
  go_upto_region 15 with fail
  obtain ⟨r0, r1, r2, r3, r4, _, _, _, _, _⟩ := (K16.out.below J17.out K16.out.lt).facts5
  go_wp2_with fail
  have TO17 := Lib.hid (show IsTm (· < w17.heap.size) w17 O _ from IsTm.keep (fun b h => by omega) (fun p hp => (J17.out.cell (by omega)).trans (N16.out.cell hp.2)) _ TO.out)
  refine (uses_any O _ w17 (by have := HO.out.2.2.1; omega) HO.out.2.1 (low_mono (by omega) _ HO.out.2.2.2) (T6.out w17 E17.out) TO17.out).mono ?_
  rintro e w18 ⟨s2, L2, rfl, uL2, own2, b18⟩
  have hz18 := b18.size
  have E18 := Lib.hid (E17.out.trans (b18.mono (by omega)))
  have F18 := Lib.hid (F17.out.trans (b18.mono (by omega)))
  have J18 := Lib.hid (J17.out.trans (b18.mono (by omega)))
  have H18 := Lib.hid b18
  have hL : L2 = L1.map (upFrom a (n + m)) := by
    have u3 := uses_lift (m := a) (n := n + m) HX.out.1 U1.out
    rw [HO.out.1] at u3
    exact rising_one uL2.1 u3.1 (fun x => (uL2.2 x).trans (u3.2 x).symm)
  obtain ⟨P2, cp2, rfl, _, row2⟩ := row_form own2
  have hll : L2.length = L1.length := by rw [hL, List.length_map]
  have HL := Lib.hid hL
  have R2 := Lib.hid row2
  rw [hll]
  clear hL uL2 own2 row2 b18 r0 r1 r2 r3 r4
  go_upto_region 16 with fail
  have XX18 := Lib.hid fun (w' : World) (h : Below w18.heap.size w18 w') => IsTm.keep (S' := (· < w'.heap.size)) (w' := w') (fun b hb => by have h' : b < w5.heap.size := hb; have := h.size; omega) (fun p hp => (E18.out.trans (h.mono (by omega))).cell (by have h' : p.block < w5.heap.size := hp; omega) |>.trans (N6.out.cell hp)) _ X5.out
  have XB18 := Lib.hid fun (w' : World) (h : Below w18.heap.size w18 w') => IsTm.keep (S' := (· < w'.heap.size)) (w' := w') (fun b hb => by have h' : b < w9.heap.size := hb; have := h.size; omega) (fun p hp => (F18.out.trans (h.mono (by omega))).cell (by have h' : p.block < w9.heap.size := hp; omega)) _ XB.out
  have OC18 := Lib.hid fun (w' : World) (h : Below w18.heap.size w18 w') => IsTm.keep (S' := (· < w'.heap.size)) (w' := w') (fun b hb => by have h' := hb.2; have := h.size; omega) (fun p hp => (F18.out.trans (h.mono (by omega))).cell hp.2) _ TD14.out
  have OO18 := Lib.hid fun (w' : World) (h : Below w18.heap.size w18 w') => IsTm.keep (S' := (· < w'.heap.size)) (w' := w') (fun b hb => by have h' : b < w17.heap.size := hb; have := h.size; omega) (fun p hp => (H18.out.trans (h.mono (by omega))).cell hp) _ TO17.out
  obtain ⟨r0, r1, r2, r3, r4, _, _, _, _, _⟩ := (K6.out.below E18.out K6.out.lt).facts5
  obtain ⟨q0, q1, q2, q3, q4, _, _, _, _, _⟩ := (KB.out.below F18.out KB.out.lt).facts5
  go_wp2_with fail
  refine (sameT_refl 20000 X _ _ w18 (by have := HX.out.2.2.2.1; omega) (by decide) (XB18.out w18 (Below.refl _ _)) (XX18.out w18 (Below.refl _ _))).mono ?_
  rintro e w19 ⟨rfl, b19⟩
  have hz19 := b19.size
  have H19 := Lib.hid b19
  clear b19 r0 r1 r2 r3 r4 q0 q1 q2 q3 q4
  obtain ⟨r0, r1, r2, r3, r4, _, _, _, _, _⟩ := (K14.out.below (F18.out.trans (H19.out.mono (by omega))) K14.out.lt).facts5
  obtain ⟨q0, q1, q2, q3, q4, _, _, _, _, _⟩ := (K16.out.below (J18.out.trans (H19.out.mono (by omega))) K16.out.lt).facts5
  go_wp2_with fail
  refine (sameT_refl 20000 O _ _ w19 (by have := HO.out.2.2.1; omega) (by decide) (OC18.out w19 H19.out) (OO18.out w19 H19.out)).mono ?_
  rintro e w20 ⟨rfl, b20⟩
  have hz20 := b20.size
  have H20 := Lib.hid (H19.out.trans (b20.mono hz19))
  clear b20 r0 r1 r2 r3 r4 q0 q1 q2 q3 q4
  have V20 := Lib.hid (H18.out.trans (H20.out.mono hz18))
  have US := Lib.hid (uses_small HX.out.2.2.2.2 U1.out)
  go_wp2_with fail
  go_loopw [145] (fun ix wr => ∃ j : Nat, j ≤ L1.length ∧ ix = .int .i64 j ∧ wr = w20) (fun ix _ => L1.length - (intOf ix).toNat)
  case atStart => exact ⟨0, by omega, rfl, rfl⟩
  case round =>
    obtain ⟨j, hj, rfl, rfl⟩ := hrel
    by_cases hlt : j < L1.length
    · have hlt2 : j < L2.length := by omega
      obtain ⟨a1, rfl, _, h1, c1⟩ := R1.out j hlt
      obtain ⟨a2, rfl, _, h2, c2⟩ := R2.out j hlt2
      have c1' := (V20.out.cell (p := a1.add j) (by rw [add_block]; exact h1)).trans c1
      have c2' := (H20.out.cell (p := a2.add j) (by rw [add_block]; exact h2)).trans c2
      have e2 : L2[j] = upFrom a (n + m) L1[j] := by simp only [HL.out, List.getElem_map]
      have hx := US.out L1[j] (List.getElem_mem hlt)
      rw [e2] at c2'
      unfold upFrom at c2'
      generalize L1[j] = x at c1' c2' hx
      clear c1 c2 e2
      by_cases hax : (a : Int) ≤ x
      · rw [if_pos hax] at c2'
        have hd1 : decide (x ≥ (a : Int)) = true := decide_eq_true hax
        have hw1 : IntKind.i64.wrap (x + ((n : Int) + (m : Int))) = x + ((n + m : Nat) : Int) := by rw [IntWalk.i64_in _ (by omega)]; omega
        go_wp2_with fail
        exact ⟨⟨j + 1, by omega, by go_num, trivial⟩, by simp [intOf]; omega⟩
      · rw [if_neg hax] at c2'
        go_wp2_with fail
        exact ⟨⟨j + 1, by omega, by go_num, trivial⟩, by simp [intOf]; omega⟩
    · have hjl : j = L1.length := by omega
      subst hjl
      go_wp2_with fail
      go_ret
      have hz20 := H20.out.size
      exact ⟨rfl, BW.out.trans ((N6.out.trans ((E18.out.trans (H20.out.mono (by omega))).mono (by omega))).mono (by omega))⟩
end Go.Proofs.YtdhidofmojaheaaDoor
