/- The walk of the law on matching. -/
import Derived.Test.YtdhidofmojaheaaDoorPackFin
import Derived.Test.YtdhidofmojaheaaDoorPackMatch
import Derived.Deep.RegionHeld3
import Derived.Deep.DeepFit
namespace Go.Proofs.YtdhidofmojaheaaDoor
open Go.RowKit

theorem bd3O (t : Ty) : bdO 3 t ≤ 35 := by unfold bdO; split <;> decide
theorem blk_new1 (w : World) (o : Obj) (cs : Array Value) (t : TypeId) : Blk ((w.alloc o).alloc (.cells cs t)) (w.heap.size + 1) t cs := by
  have h := Blk.new (w.alloc o) t cs
  rwa [World.size_alloc] at h
theorem bdN2 (t : Ty) : bdN 2 t ≤ 276 := by unfold bdN; split <;> decide
theorem bdO2 (t : Ty) : bdO 2 t ≤ 35 := by unfold bdO; split <;> decide
/-- Two terms, each in a block of its own. -/
def TwoR (g : Nat) (W : World) (P Q : Tm → Prop) (p q : Value) (wx : World) : Prop :=
  ∃ (a b : Nat) (x y : Tm) (B A B' A' : Option Addr) (e c e' c' : Nat), p = .pointer (some ⟨a, 0, none⟩) ∧ q = .pointer (some ⟨b, 0, none⟩) ∧ P x ∧ Q y ∧ W.heap.size ≤ a ∧ W.heap.size ≤ b ∧
    Blk wx a 34 #[.int .i64 x.kind, .int .i64 x.index, .int .i64 x.type.kind, .slice B x.type.args.length e, .slice A x.args.length c] ∧ Blk wx b 34 #[.int .i64 y.kind, .int .i64 y.index, .int .i64 y.type.kind, .slice B' y.type.args.length e', .slice A' y.args.length c'] ∧
    Trm W.heap.size wx x (.agg #[.int .i64 x.kind, .int .i64 x.index, .int .i64 x.type.kind, .slice B x.type.args.length e, .slice A x.args.length c]) ∧ Trm W.heap.size wx y (.agg #[.int .i64 y.kind, .int .i64 y.index, .int .i64 y.type.kind, .slice B' y.type.args.length e', .slice A' y.args.length c']) ∧ Turn (· = g) W wx

theorem free_five {g R q : Nat} {w : World} {t : TypeId} {cs : Array Value} (hb : Blk w q t cs ∧ R ≤ q) (hR : g < R) (a b c d e : Value) :
    Turn (Free g (R - 1)) w (((((w.setCell ⟨q, 0, none⟩ a).setCell ⟨q, 1, none⟩ b).setCell ⟨q, 2, none⟩ c).setCell ⟨q, 3, none⟩ d).setCell ⟨q, 4, none⟩ e) :=
  free_set5 (by have := hb.2; omega) a b c d e
theorem blk_after (w : World) (q : Nat) (a b c d e : Value) (cs : Array Value) (t : TypeId) :
    Blk ((((((w.setCell ⟨q, 0, none⟩ a).setCell ⟨q, 1, none⟩ b).setCell ⟨q, 2, none⟩ c).setCell ⟨q, 3, none⟩ d).setCell ⟨q, 4, none⟩ e).alloc (.cells cs t)) w.heap.size t cs := by
  have h := Blk.new (((((w.setCell ⟨q, 0, none⟩ a).setCell ⟨q, 1, none⟩ b).setCell ⟨q, 2, none⟩ c).setCell ⟨q, 3, none⟩ d).setCell ⟨q, 4, none⟩ e) t cs
  simpa using h
theorem blk_beside {p q : Nat} {w : World} {s t : TypeId} {cs ds : Array Value} (h : Blk w p t cs) (_k : Blk w q s ds) (hne : p ≠ q) (a b c d e : Value) :
    Blk (((((w.setCell ⟨q, 0, none⟩ a).setCell ⟨q, 1, none⟩ b).setCell ⟨q, 2, none⟩ c).setCell ⟨q, 3, none⟩ d).setCell ⟨q, 4, none⟩ e) p t cs := h.grown (only_set5 w q a b c d e) (by simpa using hne)
theorem two_end {g a b l1 l2 : Nat} {W w1 w2 V : World} {P Q : Tm → Prop} {x y : Tm} {B A B' A' : Option Addr} {e c e' c' : Nat} (hx : P x) (hy : Q y) (hg : g < W.heap.size) (h1 : W.heap.size ≤ l1) (h2 : W.heap.size ≤ l2)
    (tx : IsTm (fun b => l1 ≤ b ∧ b < w1.heap.size) w1 x (.agg #[.int .i64 x.kind, .int .i64 x.index, .int .i64 x.type.kind, .slice B x.type.args.length e, .slice A x.args.length c])) (u : Turn (· = g) w1 w2) (ty : IsTm (fun b => l2 ≤ b ∧ b < w2.heap.size) w2 y (.agg #[.int .i64 y.kind, .int .i64 y.index, .int .i64 y.type.kind, .slice B' y.type.args.length e', .slice A' y.args.length c'])) (t02 : Turn (· = g) W w2) (tv : Turn (fun k => k = a ∨ k = b) w2 V)
    (ka : Blk V a 34 #[.int .i64 x.kind, .int .i64 x.index, .int .i64 x.type.kind, .slice B x.type.args.length e, .slice A x.args.length c]) (kb : Blk V b 34 #[.int .i64 y.kind, .int .i64 y.index, .int .i64 y.type.kind, .slice B' y.type.args.length e', .slice A' y.args.length c']) (ha : W.heap.size ≤ a) (hb : W.heap.size ≤ b) (hax : a < l1 ∨ w1.heap.size ≤ a) (hbx : b < l1 ∨ w1.heap.size ≤ b) (hay : a < l2 ∨ w2.heap.size ≤ a) (hby : b < l2 ∨ w2.heap.size ≤ b) :
    TwoR g W P Q (.pointer (some ⟨a, 0, none⟩)) (.pointer (some ⟨b, 0, none⟩)) V := by
  have hz := u.size
  have hv := tv.size
  refine ⟨a, b, x, y, B, A, B', A', e, c, e', c', rfl, rfl, hx, hy, ha, hb, ka, kb, ?_, ?_, ?_⟩
  · exact IsTm.keep (fun k h => ⟨Nat.le_trans h1 h.1, by have := h.2; omega⟩) (fun p h => (World.cell?_of_block (tv.block p.block (by have := h.2; omega) (by have := h.1; have := h.2; omega))).trans (World.cell?_of_block (u.block p.block h.2 (by have := h.1; omega)))) _ tx
  · exact IsTm.keep (fun k h => ⟨Nat.le_trans h2 h.1, by have := h.2; omega⟩) (fun p h => World.cell?_of_block (tv.block p.block h.2 (by have := h.1; have := h.2; omega))) _ ty
  · exact ⟨tv.os.trans t02.os, tv.tape.trans t02.tape, tv.output.trans t02.output, Nat.le_trans t02.size hv, fun k hk hx => (tv.block k (Nat.lt_of_lt_of_le hk t02.size) (by omega)).trans (t02.block k hk hx)⟩

/-- What the loop has come to. -/
def ZAt (lo q j : Nat) (X : Tm) (w wr : World) : Prop :=
  ∃ (Z : Tm) (B A : Option Addr) (e c m : Nat), m ≤ j ∧ X.iter m = some Z ∧ Z.ok = true ∧ Z.size ≤ 4096 ∧ Z.low (1000 + 4096 * j) = true ∧ Blk wr q 34 #[.int .i64 Z.kind, .int .i64 Z.index, .int .i64 Z.type.kind, .slice B Z.type.args.length e, .slice A Z.args.length c] ∧ IsTm (fun b => (lo ≤ b ∧ b ≠ q) ∧ b < wr.heap.size) wr Z (.agg #[.int .i64 Z.kind, .int .i64 Z.index, .int .i64 Z.type.kind, .slice B Z.type.args.length e, .slice A Z.args.length c]) ∧ Turn (· = q) w wr

set_option maxRecDepth 100000 in
set_option maxHeartbeats 8000000 in
theorem matchesLaw_small (A : Option Addr) (len cap : Nat) (u : Int) (w : World) (htab : Tab w) (hlen : len ≤ 500) (hu : 0 ≤ u ∧ u < 256) (hA : ∀ i, i < len → ∃ a x, A = some a ∧ a.block < w.heap.size ∧ w.cell? (a.add i) = some (.int .i64 x)) :
    Calls Tryd.prog 3 #[.slice A len cap, .int .u8 u] w fun e w' => e = .returned (.bool true) ∧ Below w.heap.size w w' := by
  have hA' := Lib.hid hA
  have HTab := Lib.hid htab
  clear hA htab
  have e500 : decide ((len : Int) ≤ 500) = true := by simp; omega
  go_enter Tryd.func3, Tryd.ntmps3
  go_wp2_with fail
  refine (saneR_any w HTab.out).mono ?_
  rintro e w1 ⟨rfl, hb1⟩
  go_wp2_with fail
  refine (few_any A len cap w1 (by simp only [maxLen]; omega)).mono ?_
  rintro e w1' ⟨rfl, rfl⟩
  rw [e500]
  go_wp2_with fail
  have hA1 : ∀ i, i < len → ∃ a x, A = some a ∧ a.block < w1.heap.size ∧ w1.cell? (a.add i) = some (.int .i64 x) := fun i hi => by
    obtain ⟨a, x, h1, h2, h3⟩ := hA'.out i hi
    exact ⟨a, x, h1, Nat.lt_of_lt_of_le h2 hb1.size, (hb1.cell (by rw [add_block]; exact h2)).trans h3⟩
  refine (new_any A len cap w1 hlen hA1).mono ?_
  rintro e w2 ⟨rfl, hw2⟩
  have hd2 := new_deck A len cap w1 hlen hA1
  rw [hw2] at hd2
  have b_w2 : Below w.heap.size w w2 := by rw [← hw2]; exact hb1.alloc hb1.size _
  have hgw : w.heap.size ≤ w1.heap.size := hb1.size
  clear hw2 hA1 hb1
  generalize w1.heap.size = gg at hd2 hgw ⊢
  have z_w2 := hd2.lt
  have HD2 := Lib.hid hd2
  clear hd2
  go_wp2_with fail
  refine (mkContext_any gg w2 HD2.out).mono ?_
  rintro e w3 ⟨G, v, rfl, hG3, hGok, hGs, hGf, hGnil, hd3, hg3⟩
  obtain ⟨A3, c3, rfl⟩ := hGs.form
  have HD3 := Lib.hid hd3
  have HC3 := Lib.hid (show Ctx gg w3 G (.slice A3 G.length c3) from ⟨hGs.keep (fun b hb => ⟨by have := hb.1; omega, hb.2⟩) (fun _ _ => rfl), hGf, hGok⟩)
  have HGN := Lib.hid hGnil
  have HGO := Lib.hid hGok
  have s_w3 := turn_of hg3
  have b_w3 : Below w.heap.size w w3 := b_w2.trans (s_w3.toBelow (fun k hk e => by omega) b_w2.size)
  clear s_w3 b_w2 
  have z_w3 : gg < w3.heap.size := HD3.out.lt
  have m_w3_w3 := tRf gg w3
  clear hg3 hd3 hGs hGf hGnil hGok
  go_wp2_with fail
  refine (type_any 1 1 gg w3 (by omega) (by omega) (by omega) HD3.out).mono ?_
  rintro e w4 ⟨S, x4, rfl, okS, szS, tyS, hd4, hg4⟩
  obtain ⟨A4, c4, rfl⟩ := tyS.form
  have nS := type_three szS
  have HS := Lib.hid (And.intro okS (Typ.of tyS z_w3))
  have D_w4 := Lib.hid hd4
  have s_w4 := turn_of hg4
  have b_w4 : Below w.heap.size w w4 := b_w3.trans (s_w4.toBelow (fun k hk e => by omega) b_w3.size)
  have m_w3_w4 := m_w3_w3.trans s_w4
  clear s_w4 b_w3 m_w3_w3
  have z_w4 : gg < w4.heap.size := D_w4.out.lt
  have m_w4_w4 := tRf gg w4
  clear tyS hd4 hg4 okS szS
  go_upto_region 8 with fail
  have n_W5 : w4.heap.size ≠ gg := by have := z_w4; omega
  have d_W5 := (Deck.box D_w4.out (Obj.cells #[.int .i64 S.kind, .slice A4 S.args.length c4] 30))
  obtain ⟨a_W5, y_W5, k_W5⟩ := new_blk (Below.refl w4.heap.size w4) (Nat.le_refl _) #[.int .i64 S.kind, .slice A4 S.args.length c4] 30
  generalize w4.alloc (Obj.cells #[.int .i64 S.kind, .slice A4 S.args.length c4] 30) = W5 at a_W5 y_W5 k_W5 d_W5 ⊢
  have s_W5 := (tCa gg a_W5)
  have b_W5 : Below w.heap.size w W5 := b_w4.trans (s_W5.toBelow (fun k hk e => by omega) b_w4.size)
  have m_w3_W5 := m_w3_w4.trans s_W5
  have m_w4_W5 := m_w4_w4.trans s_W5
  clear s_W5 b_w4 m_w3_w4 m_w4_w4
  have z_W5 : gg < W5.heap.size := by have := z_w4; omega
  have m_W5_W5 := tRf gg W5
  have K_W5 := Lib.hid k_W5
  have D_W5 := Lib.hid d_W5
  clear a_W5 k_W5 y_W5 d_W5
  have nfS : ¬ Free gg (W5.heap.size - 1) w4.heap.size := by have := K_W5.out.lt; have := n_W5; unfold Free; omega
  have HC5 := Lib.hid (Ctx.turn HC3.out m_w3_W5)
  have HS5 := Lib.hid (Typ.turn HS.out.2 m_w4_W5)
  go_cut [8, 9] from 28 to 35 (fun x y wx => TwoR gg W5 (Made G S 276 35) (Made G S 276 35) x y wx)
  case first =>
    have QD := Lib.hid (Turn.free (n := W5.heap.size - 1) (tDr gg W5))
    have QDLN := Lib.hid (Turn.free (n := W5.heap.size - 1) (tAl gg W5 (Obj.cells #[.int .i64 0, .int .i64 0, .int .i64 0, .slice none 0 0, .slice none 0 0] 34)))
    have QDL := Lib.hid (Turn.free (n := W5.heap.size - 1) ((tAl gg W5 (Obj.cells #[.int .i64 0, .int .i64 0, .int .i64 0, .slice none 0 0, .slice none 0 0] 34)).trans (tDr gg _)))
    have QDLMN := Lib.hid (Turn.free (n := W5.heap.size - 1) ((tAl gg W5 (Obj.cells #[.int .i64 0, .int .i64 0, .int .i64 0, .slice none 0 0, .slice none 0 0] 34)).trans (tAl gg _ (Obj.cells #[.int .i64 0, .int .i64 0, .int .i64 0, .slice none 0 0, .slice none 0 0] 34))))
    have QDLM := Lib.hid (Turn.free (n := W5.heap.size - 1) (((tAl gg W5 (Obj.cells #[.int .i64 0, .int .i64 0, .int .i64 0, .slice none 0 0, .slice none 0 0] 34)).trans (tAl gg _ (Obj.cells #[.int .i64 0, .int .i64 0, .int .i64 0, .slice none 0 0, .slice none 0 0] 34))).trans (tDr gg _)))
    have HSK := Lib.hid fun (w' : World) (h : Turn (Free gg (W5.heap.size - 1)) W5 w') => And.intro (h.blk K_W5.out nfS).facts2.1 (h.blk K_W5.out nfS).facts2.2.1
    obtain ⟨q0, q1⟩ := HSK.out W5 (Turn.refl _ _)
    go_region_held3 (fun w' => w'.cell? ⟨w4.heap.size, 0, none⟩ = some (.int .i64 S.kind) ∧ w'.cell? ⟨w4.heap.size, 1, none⟩ = some (.slice A4 S.args.length c4))
      (first | with_reducible exact HSK.out _ QD.out | with_reducible exact HSK.out _ QDLN.out | with_reducible exact HSK.out _ QDL.out | with_reducible exact HSK.out _ QDLMN.out | with_reducible exact HSK.out _ QDLM.out | with_reducible exact HSK.out _ Qp1.out | with_reducible exact HSK.out _ Qp1L.out | with_reducible exact HSK.out _ Qp1LM.out | with_reducible exact HSK.out _ Qp2.out | with_reducible exact HSK.out _ Qp2L.out | with_reducible exact HSK.out _ Qp2LM.out | with_reducible exact HSK.out _ QZ1.out | with_reducible exact HSK.out _ QZ2.out | with_reducible exact HSK.out _ QZ3.out | with_reducible exact HSK.out _ QZ4.out | with_reducible exact HSK.out _ QZ5.out | with_reducible exact HSK.out _ QZ6.out | with_reducible exact HSK.out _ QZ7.out | with_reducible exact HSK.out _ QZ8.out | with_reducible exact HSK.out _ QZ9.out | with_reducible exact HSK.out _ QZ10.out | with_reducible exact HSK.out _ QZCz.out | with_reducible exact HSK.out _ QZCx.out | with_reducible exact HSK.out _ QZCy.out | with_reducible exact HSK.out _ QZAa.out | with_reducible exact HSK.out _ QZBza.out | with_reducible exact HSK.out _ QZDza.out | with_reducible exact HSK.out _ QZBoa.out | with_reducible exact HSK.out _ QZDoa.out | with_reducible exact HSK.out _ QZFa.out | with_reducible exact HSK.out _ QZAb.out | with_reducible exact HSK.out _ QZBzb.out | with_reducible exact HSK.out _ QZDzb.out | with_reducible exact HSK.out _ QZBob.out | with_reducible exact HSK.out _ QZDob.out | with_reducible exact HSK.out _ QZFb.out | with_reducible exact HSK.out _ QZEa.out | with_reducible exact HSK.out _ QZEb.out | with_reducible exact HSK.out _ Qp2M.out)
      (first
        | (go_at_call 15
           have GL := KSLp1.out
           have GM := KSMp1.out
           have Pp2 := term_any gg (4 * 2 + S.nodes + 1) G S 2 _ _ wp1 (by simp) (by omega) (by omega) (by simp; omega) HS.out.1 nS (Ctx.turn HC5.out Tp1.out) (Typ.turn HS5.out Tp1.out) Kp1.out
           (with_reducible refine Pp2.mono ?_)
           rintro e wp2 ⟨yp2, vp2, rfl, mp2, tp2, kp2, up2⟩
           clear Pp2
           have Tp2 := Lib.hid (Tp1.out.trans (up2))
           have Up2 := Lib.hid (up2)
           obtain ⟨Bp2, ep2, Ap2, cp2, rfl, _⟩ := IsTm.form tp2
           have Kp2 := Lib.hid kp2
           obtain ⟨lp2, hlp2⟩ : ∃ lp2, lp2 = (wp1).heap.size := ⟨_, rfl⟩
           have V12 := Lib.hid (show Turn (· = gg) wp1 wp2 from (up2))
           have gp2 : W5.heap.size ≤ lp2 := by rw [hlp2]; exact (show W5.heap.size ≤ (wp1).heap.size from (Tp1.out).size)
           have szp2 : lp2 ≤ wp2.heap.size := by rw [hlp2]; exact up2.size
           have szm : wp1.heap.size ≤ lp2 := by rw [hlp2]; simp <;> omega
           have HXp2 := Lib.hid (And.intro mp2 (show IsTm (fun b => lp2 ≤ b ∧ b < wp2.heap.size) wp2 yp2 _ by rw [hlp2]; exact tp2))
           clear kp2 mp2 tp2 hlp2
           try (have KSLp2 := Lib.hid (And.intro (Turn.blk Up2.out KSLp1.out.1 (by have := KSLp1.out.2; omega)) KSLp1.out.2))
           try (have KSMp2 := Lib.hid (And.intro (Turn.blk Up2.out KSMp1.out.1 (by have := KSMp1.out.2; omega)) KSMp1.out.2))
           have Qp2 := Lib.hid (Turn.free (n := W5.heap.size - 1) Tp2.out)
           obtain ⟨_, _, _, _, _, f0, f1, f2, f3, f4⟩ := KSLp2.out.1.facts5
           obtain ⟨_, _, _, _, _, g0, g1, g2, g3, g4⟩ := KSMp2.out.1.facts5
           have KOa := Lib.hid (blk_beside KSMp2.out.1 KSLp2.out.1 (Nat.succ_ne_self _) (.int .i64 yp1.kind) (.int .i64 yp1.index) (.int .i64 yp1.type.kind) (.slice Bp1 yp1.type.args.length ep1) (.slice Ap1 yp1.args.length cp1))
           have QZAa := Lib.hid (Turn.trans Qp2.out (free_five KSLp2.out z_W5 (.int .i64 yp1.kind) (.int .i64 yp1.index) (.int .i64 yp1.type.kind) (.slice Bp1 yp1.type.args.length ep1) (.slice Ap1 yp1.args.length cp1)))
           have QZEa := Lib.hid (Turn.trans (Turn.trans Qp2.out (free_five KSLp2.out z_W5 (.int .i64 yp1.kind) (.int .i64 yp1.index) (.int .i64 yp1.type.kind) (.slice Bp1 yp1.type.args.length ep1) (.slice Ap1 yp1.args.length cp1))) (free_five (And.intro KOa.out KSMp2.out.2) z_W5 (.int .i64 yp2.kind) (.int .i64 yp2.index) (.int .i64 yp2.type.kind) (.slice Bp2 yp2.type.args.length ep2) (.slice Ap2 yp2.args.length cp2)))
           have END7a := Lib.hid (two_end (g := gg) (W := W5) (P := Made G S 276 35) (Q := Made G S 276 35) (HXp1.out.1.mono (bdN3 S) (bd3O S)) (HXp2.out.1.mono (bdN2 S) (bdO2 S)) z_W5 gp1 gp2 HXp1.out.2 V12.out HXp2.out.2 Tp2.out (Turn.trans (Turn.grown (only_set5 wp2 _ (.int .i64 yp1.kind) (.int .i64 yp1.index) (.int .i64 yp1.type.kind) (.slice Bp1 yp1.type.args.length ep1) (.slice Ap1 yp1.args.length cp1)) (fun k e => by cases e; exact .inl rfl)) (Turn.grown (only_set5 _ _ (.int .i64 yp2.kind) (.int .i64 yp2.index) (.int .i64 yp2.type.kind) (.slice Bp2 yp2.type.args.length ep2) (.slice Ap2 yp2.args.length cp2)) (fun k e => by cases e; exact .inr rfl))) ((blk_beside (KSLp2.out.1.set5 (.int .i64 yp1.kind) (.int .i64 yp1.index) (.int .i64 yp1.type.kind) (.slice Bp1 yp1.type.args.length ep1) (.slice Ap1 yp1.args.length cp1)) KOa.out ((Nat.succ_ne_self _)).symm (.int .i64 yp2.kind) (.int .i64 yp2.index) (.int .i64 yp2.type.kind) (.slice Bp2 yp2.type.args.length ep2) (.slice Ap2 yp2.args.length cp2))) ((KOa.out.set5 (.int .i64 yp2.kind) (.int .i64 yp2.index) (.int .i64 yp2.type.kind) (.slice Bp2 yp2.type.args.length ep2) (.slice Ap2 yp2.args.length cp2))) (KSLp2.out.2) (KSMp2.out.2) (.inl ltLp1) (.inl ltMp1) (.inl (Nat.lt_of_lt_of_le ltLp1 (Nat.le_trans szp1 szm))) (.inl (Nat.lt_of_lt_of_le ltMp1 (Nat.le_trans szp1 szm))))
           obtain ⟨_, _, _, _, _, a0, a1, a2, a3, a4⟩ := KOa.out.facts5
           have KOb := Lib.hid (blk_beside KSLp2.out.1 KSMp2.out.1 (Nat.succ_ne_self _).symm (.int .i64 yp1.kind) (.int .i64 yp1.index) (.int .i64 yp1.type.kind) (.slice Bp1 yp1.type.args.length ep1) (.slice Ap1 yp1.args.length cp1))
           have QZAb := Lib.hid (Turn.trans Qp2.out (free_five KSMp2.out z_W5 (.int .i64 yp1.kind) (.int .i64 yp1.index) (.int .i64 yp1.type.kind) (.slice Bp1 yp1.type.args.length ep1) (.slice Ap1 yp1.args.length cp1)))
           have QZEb := Lib.hid (Turn.trans (Turn.trans Qp2.out (free_five KSMp2.out z_W5 (.int .i64 yp1.kind) (.int .i64 yp1.index) (.int .i64 yp1.type.kind) (.slice Bp1 yp1.type.args.length ep1) (.slice Ap1 yp1.args.length cp1))) (free_five (And.intro KOb.out KSLp2.out.2) z_W5 (.int .i64 yp2.kind) (.int .i64 yp2.index) (.int .i64 yp2.type.kind) (.slice Bp2 yp2.type.args.length ep2) (.slice Ap2 yp2.args.length cp2)))
           have END7b := Lib.hid (two_end (g := gg) (W := W5) (P := Made G S 276 35) (Q := Made G S 276 35) (HXp1.out.1.mono (bdN3 S) (bd3O S)) (HXp2.out.1.mono (bdN2 S) (bdO2 S)) z_W5 gp1 gp2 HXp1.out.2 V12.out HXp2.out.2 Tp2.out (Turn.trans (Turn.grown (only_set5 wp2 _ (.int .i64 yp1.kind) (.int .i64 yp1.index) (.int .i64 yp1.type.kind) (.slice Bp1 yp1.type.args.length ep1) (.slice Ap1 yp1.args.length cp1)) (fun k e => by cases e; exact .inl rfl)) (Turn.grown (only_set5 _ _ (.int .i64 yp2.kind) (.int .i64 yp2.index) (.int .i64 yp2.type.kind) (.slice Bp2 yp2.type.args.length ep2) (.slice Ap2 yp2.args.length cp2)) (fun k e => by cases e; exact .inr rfl))) ((blk_beside (KSMp2.out.1.set5 (.int .i64 yp1.kind) (.int .i64 yp1.index) (.int .i64 yp1.type.kind) (.slice Bp1 yp1.type.args.length ep1) (.slice Ap1 yp1.args.length cp1)) KOb.out ((Nat.succ_ne_self _).symm).symm (.int .i64 yp2.kind) (.int .i64 yp2.index) (.int .i64 yp2.type.kind) (.slice Bp2 yp2.type.args.length ep2) (.slice Ap2 yp2.args.length cp2))) ((KOb.out.set5 (.int .i64 yp2.kind) (.int .i64 yp2.index) (.int .i64 yp2.type.kind) (.slice Bp2 yp2.type.args.length ep2) (.slice Ap2 yp2.args.length cp2))) (KSMp2.out.2) (KSLp2.out.2) (.inl ltMp1) (.inl ltLp1) (.inl (Nat.lt_of_lt_of_le ltMp1 (Nat.le_trans szp1 szm))) (.inl (Nat.lt_of_lt_of_le ltLp1 (Nat.le_trans szp1 szm))))
           obtain ⟨_, _, _, _, _, b0, b1, b2, b3, b4⟩ := KOb.out.facts5)
        | (go_at_call 15
           have GL := KSLp1.out
           have Pp2 := term_any gg (4 * 2 + S.nodes + 1) G S 2 _ _ (wp1.alloc (Obj.cells #[.int .i64 0, .int .i64 0, .int .i64 0, .slice none 0 0, .slice none 0 0] 34)) (by simp) (by omega) (by omega) (by simp; omega) HS.out.1 nS (Ctx.turn HC5.out (Tp1.out.trans (tAl gg _ (Obj.cells #[.int .i64 0, .int .i64 0, .int .i64 0, .slice none 0 0, .slice none 0 0] 34)))) (Typ.turn HS5.out (Tp1.out.trans (tAl gg _ (Obj.cells #[.int .i64 0, .int .i64 0, .int .i64 0, .slice none 0 0, .slice none 0 0] 34)))) (Deck.box Kp1.out (Obj.cells #[.int .i64 0, .int .i64 0, .int .i64 0, .slice none 0 0, .slice none 0 0] 34))
           (with_reducible refine Pp2.mono ?_)
           rintro e wp2 ⟨yp2, vp2, rfl, mp2, tp2, kp2, up2⟩
           clear Pp2
           have Tp2 := Lib.hid ((Tp1.out.trans (tAl gg _ (Obj.cells #[.int .i64 0, .int .i64 0, .int .i64 0, .slice none 0 0, .slice none 0 0] 34))).trans (up2))
           have Up2 := Lib.hid ((tAl gg _ (Obj.cells #[.int .i64 0, .int .i64 0, .int .i64 0, .slice none 0 0, .slice none 0 0] 34)).trans (up2))
           obtain ⟨Bp2, ep2, Ap2, cp2, rfl, _⟩ := IsTm.form tp2
           have Kp2 := Lib.hid kp2
           obtain ⟨lp2, hlp2⟩ : ∃ lp2, lp2 = ((wp1.alloc (Obj.cells #[.int .i64 0, .int .i64 0, .int .i64 0, .slice none 0 0, .slice none 0 0] 34))).heap.size := ⟨_, rfl⟩
           have V12 := Lib.hid (show Turn (· = gg) wp1 wp2 from ((tAl gg _ (Obj.cells #[.int .i64 0, .int .i64 0, .int .i64 0, .slice none 0 0, .slice none 0 0] 34)).trans (up2)))
           have gp2 : W5.heap.size ≤ lp2 := by rw [hlp2]; exact (show W5.heap.size ≤ ((wp1.alloc (Obj.cells #[.int .i64 0, .int .i64 0, .int .i64 0, .slice none 0 0, .slice none 0 0] 34))).heap.size from ((Tp1.out.trans (tAl gg _ (Obj.cells #[.int .i64 0, .int .i64 0, .int .i64 0, .slice none 0 0, .slice none 0 0] 34)))).size)
           have szp2 : lp2 ≤ wp2.heap.size := by rw [hlp2]; exact up2.size
           have szm : wp1.heap.size ≤ lp2 := by rw [hlp2]; simp <;> omega
           have ltMp2 : wp1.heap.size < lp2 := by rw [hlp2]; simp <;> omega
           have HXp2 := Lib.hid (And.intro mp2 (show IsTm (fun b => lp2 ≤ b ∧ b < wp2.heap.size) wp2 yp2 _ by rw [hlp2]; exact tp2))
           clear kp2 mp2 tp2 hlp2
           try (have KSLp2 := Lib.hid (And.intro (Turn.blk Up2.out KSLp1.out.1 (by have := KSLp1.out.2; omega)) KSLp1.out.2))
           have KSMp2 := Lib.hid (And.intro (Turn.blk ((up2)) (Blk.new wp1 34 #[.int .i64 0, .int .i64 0, .int .i64 0, .slice none 0 0, .slice none 0 0]) (by have := Tp1.out.size; omega)) (show W5.heap.size ≤ wp1.heap.size by have := Tp1.out.size; omega))
           have Qp2 := Lib.hid (Turn.free (n := W5.heap.size - 1) Tp2.out)
           have Qp2M := Lib.hid (Turn.free (n := W5.heap.size - 1) (Tp2.out.trans (tAl gg _ (Obj.cells #[.int .i64 0, .int .i64 0, .int .i64 0, .slice none 0 0, .slice none 0 0] 34))))
           obtain ⟨_, _, _, _, _, f0, f1, f2, f3, f4⟩ := KSLp2.out.1.facts5
           obtain ⟨_, _, _, _, _, g0, g1, g2, g3, g4⟩ := KSMp2.out.1.facts5
           have KOa := Lib.hid (blk_beside KSMp2.out.1 KSLp2.out.1 (Nat.ne_of_gt (Nat.lt_of_lt_of_le ltLp1 szp1)) (.int .i64 yp1.kind) (.int .i64 yp1.index) (.int .i64 yp1.type.kind) (.slice Bp1 yp1.type.args.length ep1) (.slice Ap1 yp1.args.length cp1))
           have QZAa := Lib.hid (Turn.trans Qp2.out (free_five KSLp2.out z_W5 (.int .i64 yp1.kind) (.int .i64 yp1.index) (.int .i64 yp1.type.kind) (.slice Bp1 yp1.type.args.length ep1) (.slice Ap1 yp1.args.length cp1)))
           have QZEa := Lib.hid (Turn.trans (Turn.trans Qp2.out (free_five KSLp2.out z_W5 (.int .i64 yp1.kind) (.int .i64 yp1.index) (.int .i64 yp1.type.kind) (.slice Bp1 yp1.type.args.length ep1) (.slice Ap1 yp1.args.length cp1))) (free_five (And.intro KOa.out KSMp2.out.2) z_W5 (.int .i64 yp2.kind) (.int .i64 yp2.index) (.int .i64 yp2.type.kind) (.slice Bp2 yp2.type.args.length ep2) (.slice Ap2 yp2.args.length cp2)))
           have END7a := Lib.hid (two_end (g := gg) (W := W5) (P := Made G S 276 35) (Q := Made G S 276 35) (HXp1.out.1.mono (bdN3 S) (bd3O S)) (HXp2.out.1.mono (bdN2 S) (bdO2 S)) z_W5 gp1 gp2 HXp1.out.2 V12.out HXp2.out.2 Tp2.out (Turn.trans (Turn.grown (only_set5 wp2 _ (.int .i64 yp1.kind) (.int .i64 yp1.index) (.int .i64 yp1.type.kind) (.slice Bp1 yp1.type.args.length ep1) (.slice Ap1 yp1.args.length cp1)) (fun k e => by cases e; exact .inl rfl)) (Turn.grown (only_set5 _ _ (.int .i64 yp2.kind) (.int .i64 yp2.index) (.int .i64 yp2.type.kind) (.slice Bp2 yp2.type.args.length ep2) (.slice Ap2 yp2.args.length cp2)) (fun k e => by cases e; exact .inr rfl))) ((blk_beside (KSLp2.out.1.set5 (.int .i64 yp1.kind) (.int .i64 yp1.index) (.int .i64 yp1.type.kind) (.slice Bp1 yp1.type.args.length ep1) (.slice Ap1 yp1.args.length cp1)) KOa.out ((Nat.ne_of_gt (Nat.lt_of_lt_of_le ltLp1 szp1))).symm (.int .i64 yp2.kind) (.int .i64 yp2.index) (.int .i64 yp2.type.kind) (.slice Bp2 yp2.type.args.length ep2) (.slice Ap2 yp2.args.length cp2))) ((KOa.out.set5 (.int .i64 yp2.kind) (.int .i64 yp2.index) (.int .i64 yp2.type.kind) (.slice Bp2 yp2.type.args.length ep2) (.slice Ap2 yp2.args.length cp2))) (KSLp2.out.2) (KSMp2.out.2) (.inl ltLp1) (.inr (Nat.le_refl _)) (.inl (Nat.lt_of_lt_of_le ltLp1 (Nat.le_trans szp1 szm))) (.inl ltMp2))
           obtain ⟨_, _, _, _, _, a0, a1, a2, a3, a4⟩ := KOa.out.facts5
           have KOb := Lib.hid (blk_beside KSLp2.out.1 KSMp2.out.1 (Nat.ne_of_gt (Nat.lt_of_lt_of_le ltLp1 szp1)).symm (.int .i64 yp1.kind) (.int .i64 yp1.index) (.int .i64 yp1.type.kind) (.slice Bp1 yp1.type.args.length ep1) (.slice Ap1 yp1.args.length cp1))
           have QZAb := Lib.hid (Turn.trans Qp2.out (free_five KSMp2.out z_W5 (.int .i64 yp1.kind) (.int .i64 yp1.index) (.int .i64 yp1.type.kind) (.slice Bp1 yp1.type.args.length ep1) (.slice Ap1 yp1.args.length cp1)))
           have QZEb := Lib.hid (Turn.trans (Turn.trans Qp2.out (free_five KSMp2.out z_W5 (.int .i64 yp1.kind) (.int .i64 yp1.index) (.int .i64 yp1.type.kind) (.slice Bp1 yp1.type.args.length ep1) (.slice Ap1 yp1.args.length cp1))) (free_five (And.intro KOb.out KSLp2.out.2) z_W5 (.int .i64 yp2.kind) (.int .i64 yp2.index) (.int .i64 yp2.type.kind) (.slice Bp2 yp2.type.args.length ep2) (.slice Ap2 yp2.args.length cp2)))
           have END7b := Lib.hid (two_end (g := gg) (W := W5) (P := Made G S 276 35) (Q := Made G S 276 35) (HXp1.out.1.mono (bdN3 S) (bd3O S)) (HXp2.out.1.mono (bdN2 S) (bdO2 S)) z_W5 gp1 gp2 HXp1.out.2 V12.out HXp2.out.2 Tp2.out (Turn.trans (Turn.grown (only_set5 wp2 _ (.int .i64 yp1.kind) (.int .i64 yp1.index) (.int .i64 yp1.type.kind) (.slice Bp1 yp1.type.args.length ep1) (.slice Ap1 yp1.args.length cp1)) (fun k e => by cases e; exact .inl rfl)) (Turn.grown (only_set5 _ _ (.int .i64 yp2.kind) (.int .i64 yp2.index) (.int .i64 yp2.type.kind) (.slice Bp2 yp2.type.args.length ep2) (.slice Ap2 yp2.args.length cp2)) (fun k e => by cases e; exact .inr rfl))) ((blk_beside (KSMp2.out.1.set5 (.int .i64 yp1.kind) (.int .i64 yp1.index) (.int .i64 yp1.type.kind) (.slice Bp1 yp1.type.args.length ep1) (.slice Ap1 yp1.args.length cp1)) KOb.out ((Nat.ne_of_gt (Nat.lt_of_lt_of_le ltLp1 szp1)).symm).symm (.int .i64 yp2.kind) (.int .i64 yp2.index) (.int .i64 yp2.type.kind) (.slice Bp2 yp2.type.args.length ep2) (.slice Ap2 yp2.args.length cp2))) ((KOb.out.set5 (.int .i64 yp2.kind) (.int .i64 yp2.index) (.int .i64 yp2.type.kind) (.slice Bp2 yp2.type.args.length ep2) (.slice Ap2 yp2.args.length cp2))) (KSMp2.out.2) (KSLp2.out.2) (.inr (Nat.le_refl _)) (.inl ltLp1) (.inl ltMp2) (.inl (Nat.lt_of_lt_of_le ltLp1 (Nat.le_trans szp1 szm))))
           obtain ⟨_, _, _, _, _, b0, b1, b2, b3, b4⟩ := KOb.out.facts5)
        | (go_at_call 15
           have GL := KSLp1.out
           have Pp2 := term_any gg (4 * 2 + S.nodes + 1) G S 2 _ _ wp1 (by simp) (by omega) (by omega) (by simp; omega) HS.out.1 nS (Ctx.turn HC5.out Tp1.out) (Typ.turn HS5.out Tp1.out) Kp1.out
           (with_reducible refine Pp2.mono ?_)
           rintro e wp2 ⟨yp2, vp2, rfl, mp2, tp2, kp2, up2⟩
           clear Pp2
           have Tp2 := Lib.hid (Tp1.out.trans (up2))
           have Up2 := Lib.hid (up2)
           obtain ⟨Bp2, ep2, Ap2, cp2, rfl, _⟩ := IsTm.form tp2
           have Kp2 := Lib.hid kp2
           obtain ⟨lp2, hlp2⟩ : ∃ lp2, lp2 = (wp1).heap.size := ⟨_, rfl⟩
           have V12 := Lib.hid (show Turn (· = gg) wp1 wp2 from (up2))
           have gp2 : W5.heap.size ≤ lp2 := by rw [hlp2]; exact (show W5.heap.size ≤ (wp1).heap.size from (Tp1.out).size)
           have szp2 : lp2 ≤ wp2.heap.size := by rw [hlp2]; exact up2.size
           have szm : wp1.heap.size ≤ lp2 := by rw [hlp2]; simp <;> omega
           have HXp2 := Lib.hid (And.intro mp2 (show IsTm (fun b => lp2 ≤ b ∧ b < wp2.heap.size) wp2 yp2 _ by rw [hlp2]; exact tp2))
           clear kp2 mp2 tp2 hlp2
           try (have KSLp2 := Lib.hid (And.intro (Turn.blk Up2.out KSLp1.out.1 (by have := KSLp1.out.2; omega)) KSLp1.out.2))
           try (have KSMp2 := Lib.hid (And.intro (Turn.blk Up2.out KSMp1.out.1 (by have := KSMp1.out.2; omega)) KSMp1.out.2))
           have Qp2 := Lib.hid (Turn.free (n := W5.heap.size - 1) Tp2.out)
           have Qp2M := Lib.hid (Turn.free (n := W5.heap.size - 1) (Tp2.out.trans (tAl gg _ (Obj.cells #[.int .i64 0, .int .i64 0, .int .i64 0, .slice none 0 0, .slice none 0 0] 34))))
           have QZCz := Lib.hid (Turn.free (n := W5.heap.size - 1) (Turn.trans Tp2.out (tAl gg _ (Obj.cells #[.int .i64 0, .int .i64 0, .int .i64 0, .slice none 0 0, .slice none 0 0] 34))))
           have QZCx := Lib.hid (Turn.free (n := W5.heap.size - 1) (Turn.trans Tp2.out (tAl gg _ (Obj.cells #[.int .i64 yp1.kind, .int .i64 yp1.index, .int .i64 yp1.type.kind, .slice Bp1 yp1.type.args.length ep1, .slice Ap1 yp1.args.length cp1] 34))))
           have QZCy := Lib.hid (Turn.free (n := W5.heap.size - 1) (Turn.trans Tp2.out (tAl gg _ (Obj.cells #[.int .i64 yp2.kind, .int .i64 yp2.index, .int .i64 yp2.type.kind, .slice Bp2 yp2.type.args.length ep2, .slice Ap2 yp2.args.length cp2] 34))))
           obtain ⟨_, _, _, _, _, f0, f1, f2, f3, f4⟩ := KSLp2.out.1.facts5
           obtain ⟨_, _, _, _, _, g0, g1, g2, g3, g4⟩ := (KSLp2.out.1.alloc (Obj.cells #[.int .i64 0, .int .i64 0, .int .i64 0, .slice none 0 0, .slice none 0 0] 34)).facts5
           obtain ⟨_, _, _, _, _, h0, h1, h2, h3, h4⟩ := (KSLp2.out.1.alloc (Obj.cells #[.int .i64 yp1.kind, .int .i64 yp1.index, .int .i64 yp1.type.kind, .slice Bp1 yp1.type.args.length ep1, .slice Ap1 yp1.args.length cp1] 34)).facts5
           obtain ⟨_, _, _, _, _, i0, i1, i2, i3, i4⟩ := (KSLp2.out.1.alloc (Obj.cells #[.int .i64 yp2.kind, .int .i64 yp2.index, .int .i64 yp2.type.kind, .slice Bp2 yp2.type.args.length ep2, .slice Ap2 yp2.args.length cp2] 34)).facts5
           have QZAa := Lib.hid (Turn.trans Qp2.out (free_five KSLp2.out z_W5 (.int .i64 yp1.kind) (.int .i64 yp1.index) (.int .i64 yp1.type.kind) (.slice Bp1 yp1.type.args.length ep1) (.slice Ap1 yp1.args.length cp1)))
           have QZBza := Lib.hid (Turn.trans (Turn.trans Qp2.out (free_five KSLp2.out z_W5 (.int .i64 yp1.kind) (.int .i64 yp1.index) (.int .i64 yp1.type.kind) (.slice Bp1 yp1.type.args.length ep1) (.slice Ap1 yp1.args.length cp1))) (Turn.alloc _ (Obj.cells #[.int .i64 0, .int .i64 0, .int .i64 0, .slice none 0 0, .slice none 0 0] 34)))
           have QZDza := Lib.hid (Turn.trans (Turn.free (n := W5.heap.size - 1) (Turn.trans Tp2.out (tAl gg _ (Obj.cells #[.int .i64 0, .int .i64 0, .int .i64 0, .slice none 0 0, .slice none 0 0] 34)))) (free_five (And.intro (KSLp2.out.1.alloc (Obj.cells #[.int .i64 0, .int .i64 0, .int .i64 0, .slice none 0 0, .slice none 0 0] 34)) KSLp2.out.2) z_W5 (.int .i64 yp1.kind) (.int .i64 yp1.index) (.int .i64 yp1.type.kind) (.slice Bp1 yp1.type.args.length ep1) (.slice Ap1 yp1.args.length cp1)))
           have QZBoa := Lib.hid (Turn.trans (Turn.trans Qp2.out (free_five KSLp2.out z_W5 (.int .i64 yp1.kind) (.int .i64 yp1.index) (.int .i64 yp1.type.kind) (.slice Bp1 yp1.type.args.length ep1) (.slice Ap1 yp1.args.length cp1))) (Turn.alloc _ (Obj.cells #[.int .i64 yp2.kind, .int .i64 yp2.index, .int .i64 yp2.type.kind, .slice Bp2 yp2.type.args.length ep2, .slice Ap2 yp2.args.length cp2] 34)))
           have QZDoa := Lib.hid (Turn.trans (Turn.free (n := W5.heap.size - 1) (Turn.trans Tp2.out (tAl gg _ (Obj.cells #[.int .i64 yp2.kind, .int .i64 yp2.index, .int .i64 yp2.type.kind, .slice Bp2 yp2.type.args.length ep2, .slice Ap2 yp2.args.length cp2] 34)))) (free_five (And.intro (KSLp2.out.1.alloc (Obj.cells #[.int .i64 yp2.kind, .int .i64 yp2.index, .int .i64 yp2.type.kind, .slice Bp2 yp2.type.args.length ep2, .slice Ap2 yp2.args.length cp2] 34)) KSLp2.out.2) z_W5 (.int .i64 yp1.kind) (.int .i64 yp1.index) (.int .i64 yp1.type.kind) (.slice Bp1 yp1.type.args.length ep1) (.slice Ap1 yp1.args.length cp1)))
           have KNa := Lib.hid (blk_beside (Blk.new wp2 34 #[.int .i64 0, .int .i64 0, .int .i64 0, .slice none 0 0, .slice none 0 0]) (KSLp2.out.1.alloc (Obj.cells #[.int .i64 0, .int .i64 0, .int .i64 0, .slice none 0 0, .slice none 0 0] 34)) (Nat.ne_of_gt KSLp2.out.1.lt) (.int .i64 yp1.kind) (.int .i64 yp1.index) (.int .i64 yp1.type.kind) (.slice Bp1 yp1.type.args.length ep1) (.slice Ap1 yp1.args.length cp1))
           obtain ⟨_, _, _, _, _, a0, a1, a2, a3, a4⟩ := KNa.out.facts5
           have QZFa := Lib.hid (Turn.trans (Turn.trans (Turn.free (n := W5.heap.size - 1) (Turn.trans Tp2.out (tAl gg _ (Obj.cells #[.int .i64 0, .int .i64 0, .int .i64 0, .slice none 0 0, .slice none 0 0] 34)))) (free_five (And.intro (KSLp2.out.1.alloc (Obj.cells #[.int .i64 0, .int .i64 0, .int .i64 0, .slice none 0 0, .slice none 0 0] 34)) KSLp2.out.2) z_W5 (.int .i64 yp1.kind) (.int .i64 yp1.index) (.int .i64 yp1.type.kind) (.slice Bp1 yp1.type.args.length ep1) (.slice Ap1 yp1.args.length cp1))) (free_five (And.intro KNa.out Tp2.out.size) z_W5 (.int .i64 yp2.kind) (.int .i64 yp2.index) (.int .i64 yp2.type.kind) (.slice Bp2 yp2.type.args.length ep2) (.slice Ap2 yp2.args.length cp2)))
           have END5a := Lib.hid (two_end (g := gg) (W := W5) (P := Made G S 276 35) (Q := Made G S 276 35) (HXp1.out.1.mono (bdN3 S) (bd3O S)) (HXp2.out.1.mono (bdN2 S) (bdO2 S)) z_W5 gp1 gp2 HXp1.out.2 V12.out HXp2.out.2 Tp2.out (Turn.trans (Turn.trans (Turn.alloc wp2 (Obj.cells #[.int .i64 0, .int .i64 0, .int .i64 0, .slice none 0 0, .slice none 0 0] 34)) (Turn.grown (only_set5 _ _ (.int .i64 yp1.kind) (.int .i64 yp1.index) (.int .i64 yp1.type.kind) (.slice Bp1 yp1.type.args.length ep1) (.slice Ap1 yp1.args.length cp1)) (fun k e => by cases e; exact .inl rfl))) (Turn.grown (only_set5 _ _ (.int .i64 yp2.kind) (.int .i64 yp2.index) (.int .i64 yp2.type.kind) (.slice Bp2 yp2.type.args.length ep2) (.slice Ap2 yp2.args.length cp2)) (fun k e => by cases e; exact .inr rfl))) ((blk_beside ((KSLp2.out.1.alloc (Obj.cells #[.int .i64 0, .int .i64 0, .int .i64 0, .slice none 0 0, .slice none 0 0] 34)).set5 (.int .i64 yp1.kind) (.int .i64 yp1.index) (.int .i64 yp1.type.kind) (.slice Bp1 yp1.type.args.length ep1) (.slice Ap1 yp1.args.length cp1)) KNa.out (Nat.ne_of_lt KSLp2.out.1.lt) (.int .i64 yp2.kind) (.int .i64 yp2.index) (.int .i64 yp2.type.kind) (.slice Bp2 yp2.type.args.length ep2) (.slice Ap2 yp2.args.length cp2))) ((KNa.out.set5 (.int .i64 yp2.kind) (.int .i64 yp2.index) (.int .i64 yp2.type.kind) (.slice Bp2 yp2.type.args.length ep2) (.slice Ap2 yp2.args.length cp2))) (KSLp2.out.2) (Tp2.out.size) (.inl ltLp1) (.inr V12.out.size) (.inl (Nat.lt_of_lt_of_le ltLp1 (Nat.le_trans szp1 szm))) (.inr (Nat.le_refl _)))
           have END3a := Lib.hid (two_end (g := gg) (W := W5) (P := Made G S 276 35) (Q := Made G S 276 35) (HXp1.out.1.mono (bdN3 S) (bd3O S)) (HXp2.out.1.mono (bdN2 S) (bdO2 S)) z_W5 gp1 gp2 HXp1.out.2 V12.out HXp2.out.2 Tp2.out (Turn.trans (Turn.grown (only_set5 wp2 _ (.int .i64 yp1.kind) (.int .i64 yp1.index) (.int .i64 yp1.type.kind) (.slice Bp1 yp1.type.args.length ep1) (.slice Ap1 yp1.args.length cp1)) (fun k e => by cases e; exact .inl rfl)) (Turn.alloc _ (Obj.cells #[.int .i64 yp2.kind, .int .i64 yp2.index, .int .i64 yp2.type.kind, .slice Bp2 yp2.type.args.length ep2, .slice Ap2 yp2.args.length cp2] 34))) ((KSLp2.out.1.set5 (.int .i64 yp1.kind) (.int .i64 yp1.index) (.int .i64 yp1.type.kind) (.slice Bp1 yp1.type.args.length ep1) (.slice Ap1 yp1.args.length cp1)).alloc (Obj.cells #[.int .i64 yp2.kind, .int .i64 yp2.index, .int .i64 yp2.type.kind, .slice Bp2 yp2.type.args.length ep2, .slice Ap2 yp2.args.length cp2] 34)) (blk_after wp2 _ (.int .i64 yp1.kind) (.int .i64 yp1.index) (.int .i64 yp1.type.kind) (.slice Bp1 yp1.type.args.length ep1) (.slice Ap1 yp1.args.length cp1) #[.int .i64 yp2.kind, .int .i64 yp2.index, .int .i64 yp2.type.kind, .slice Bp2 yp2.type.args.length ep2, .slice Ap2 yp2.args.length cp2] 34) (KSLp2.out.2) (Tp2.out.size) (.inl ltLp1) (.inr V12.out.size) (.inl (Nat.lt_of_lt_of_le ltLp1 (Nat.le_trans szp1 szm))) (.inr (Nat.le_refl _)))
           have END4a := Lib.hid (two_end (g := gg) (W := W5) (P := Made G S 276 35) (Q := Made G S 276 35) (HXp1.out.1.mono (bdN3 S) (bd3O S)) (HXp2.out.1.mono (bdN2 S) (bdO2 S)) z_W5 gp1 gp2 HXp1.out.2 V12.out HXp2.out.2 Tp2.out (Turn.trans (Turn.alloc wp2 (Obj.cells #[.int .i64 yp2.kind, .int .i64 yp2.index, .int .i64 yp2.type.kind, .slice Bp2 yp2.type.args.length ep2, .slice Ap2 yp2.args.length cp2] 34)) (Turn.grown (only_set5 _ _ (.int .i64 yp1.kind) (.int .i64 yp1.index) (.int .i64 yp1.type.kind) (.slice Bp1 yp1.type.args.length ep1) (.slice Ap1 yp1.args.length cp1)) (fun k e => by cases e; exact .inl rfl))) ((KSLp2.out.1.alloc (Obj.cells #[.int .i64 yp2.kind, .int .i64 yp2.index, .int .i64 yp2.type.kind, .slice Bp2 yp2.type.args.length ep2, .slice Ap2 yp2.args.length cp2] 34)).set5 (.int .i64 yp1.kind) (.int .i64 yp1.index) (.int .i64 yp1.type.kind) (.slice Bp1 yp1.type.args.length ep1) (.slice Ap1 yp1.args.length cp1)) ((blk_beside (Blk.new wp2 34 #[.int .i64 yp2.kind, .int .i64 yp2.index, .int .i64 yp2.type.kind, .slice Bp2 yp2.type.args.length ep2, .slice Ap2 yp2.args.length cp2]) (KSLp2.out.1.alloc (Obj.cells #[.int .i64 yp2.kind, .int .i64 yp2.index, .int .i64 yp2.type.kind, .slice Bp2 yp2.type.args.length ep2, .slice Ap2 yp2.args.length cp2] 34)) (Nat.ne_of_gt KSLp2.out.1.lt) (.int .i64 yp1.kind) (.int .i64 yp1.index) (.int .i64 yp1.type.kind) (.slice Bp1 yp1.type.args.length ep1) (.slice Ap1 yp1.args.length cp1))) (KSLp2.out.2) (Tp2.out.size) (.inl ltLp1) (.inr V12.out.size) (.inl (Nat.lt_of_lt_of_le ltLp1 (Nat.le_trans szp1 szm))) (.inr (Nat.le_refl _)))
           have QZAb := Lib.hid (Turn.trans Qp2.out (free_five KSLp2.out z_W5 (.int .i64 yp2.kind) (.int .i64 yp2.index) (.int .i64 yp2.type.kind) (.slice Bp2 yp2.type.args.length ep2) (.slice Ap2 yp2.args.length cp2)))
           have QZBzb := Lib.hid (Turn.trans (Turn.trans Qp2.out (free_five KSLp2.out z_W5 (.int .i64 yp2.kind) (.int .i64 yp2.index) (.int .i64 yp2.type.kind) (.slice Bp2 yp2.type.args.length ep2) (.slice Ap2 yp2.args.length cp2))) (Turn.alloc _ (Obj.cells #[.int .i64 0, .int .i64 0, .int .i64 0, .slice none 0 0, .slice none 0 0] 34)))
           have QZDzb := Lib.hid (Turn.trans (Turn.free (n := W5.heap.size - 1) (Turn.trans Tp2.out (tAl gg _ (Obj.cells #[.int .i64 0, .int .i64 0, .int .i64 0, .slice none 0 0, .slice none 0 0] 34)))) (free_five (And.intro (KSLp2.out.1.alloc (Obj.cells #[.int .i64 0, .int .i64 0, .int .i64 0, .slice none 0 0, .slice none 0 0] 34)) KSLp2.out.2) z_W5 (.int .i64 yp2.kind) (.int .i64 yp2.index) (.int .i64 yp2.type.kind) (.slice Bp2 yp2.type.args.length ep2) (.slice Ap2 yp2.args.length cp2)))
           have QZBob := Lib.hid (Turn.trans (Turn.trans Qp2.out (free_five KSLp2.out z_W5 (.int .i64 yp2.kind) (.int .i64 yp2.index) (.int .i64 yp2.type.kind) (.slice Bp2 yp2.type.args.length ep2) (.slice Ap2 yp2.args.length cp2))) (Turn.alloc _ (Obj.cells #[.int .i64 yp1.kind, .int .i64 yp1.index, .int .i64 yp1.type.kind, .slice Bp1 yp1.type.args.length ep1, .slice Ap1 yp1.args.length cp1] 34)))
           have QZDob := Lib.hid (Turn.trans (Turn.free (n := W5.heap.size - 1) (Turn.trans Tp2.out (tAl gg _ (Obj.cells #[.int .i64 yp1.kind, .int .i64 yp1.index, .int .i64 yp1.type.kind, .slice Bp1 yp1.type.args.length ep1, .slice Ap1 yp1.args.length cp1] 34)))) (free_five (And.intro (KSLp2.out.1.alloc (Obj.cells #[.int .i64 yp1.kind, .int .i64 yp1.index, .int .i64 yp1.type.kind, .slice Bp1 yp1.type.args.length ep1, .slice Ap1 yp1.args.length cp1] 34)) KSLp2.out.2) z_W5 (.int .i64 yp2.kind) (.int .i64 yp2.index) (.int .i64 yp2.type.kind) (.slice Bp2 yp2.type.args.length ep2) (.slice Ap2 yp2.args.length cp2)))
           have KNb := Lib.hid (blk_beside (Blk.new wp2 34 #[.int .i64 0, .int .i64 0, .int .i64 0, .slice none 0 0, .slice none 0 0]) (KSLp2.out.1.alloc (Obj.cells #[.int .i64 0, .int .i64 0, .int .i64 0, .slice none 0 0, .slice none 0 0] 34)) (Nat.ne_of_gt KSLp2.out.1.lt) (.int .i64 yp2.kind) (.int .i64 yp2.index) (.int .i64 yp2.type.kind) (.slice Bp2 yp2.type.args.length ep2) (.slice Ap2 yp2.args.length cp2))
           obtain ⟨_, _, _, _, _, b0, b1, b2, b3, b4⟩ := KNb.out.facts5
           have QZFb := Lib.hid (Turn.trans (Turn.trans (Turn.free (n := W5.heap.size - 1) (Turn.trans Tp2.out (tAl gg _ (Obj.cells #[.int .i64 0, .int .i64 0, .int .i64 0, .slice none 0 0, .slice none 0 0] 34)))) (free_five (And.intro (KSLp2.out.1.alloc (Obj.cells #[.int .i64 0, .int .i64 0, .int .i64 0, .slice none 0 0, .slice none 0 0] 34)) KSLp2.out.2) z_W5 (.int .i64 yp2.kind) (.int .i64 yp2.index) (.int .i64 yp2.type.kind) (.slice Bp2 yp2.type.args.length ep2) (.slice Ap2 yp2.args.length cp2))) (free_five (And.intro KNb.out Tp2.out.size) z_W5 (.int .i64 yp1.kind) (.int .i64 yp1.index) (.int .i64 yp1.type.kind) (.slice Bp1 yp1.type.args.length ep1) (.slice Ap1 yp1.args.length cp1)))
           have END5b := Lib.hid (two_end (g := gg) (W := W5) (P := Made G S 276 35) (Q := Made G S 276 35) (HXp1.out.1.mono (bdN3 S) (bd3O S)) (HXp2.out.1.mono (bdN2 S) (bdO2 S)) z_W5 gp1 gp2 HXp1.out.2 V12.out HXp2.out.2 Tp2.out (Turn.trans (Turn.trans (Turn.alloc wp2 (Obj.cells #[.int .i64 0, .int .i64 0, .int .i64 0, .slice none 0 0, .slice none 0 0] 34)) (Turn.grown (only_set5 _ _ (.int .i64 yp2.kind) (.int .i64 yp2.index) (.int .i64 yp2.type.kind) (.slice Bp2 yp2.type.args.length ep2) (.slice Ap2 yp2.args.length cp2)) (fun k e => by cases e; exact .inr rfl))) (Turn.grown (only_set5 _ _ (.int .i64 yp1.kind) (.int .i64 yp1.index) (.int .i64 yp1.type.kind) (.slice Bp1 yp1.type.args.length ep1) (.slice Ap1 yp1.args.length cp1)) (fun k e => by cases e; exact .inl rfl))) ((KNb.out.set5 (.int .i64 yp1.kind) (.int .i64 yp1.index) (.int .i64 yp1.type.kind) (.slice Bp1 yp1.type.args.length ep1) (.slice Ap1 yp1.args.length cp1))) ((blk_beside ((KSLp2.out.1.alloc (Obj.cells #[.int .i64 0, .int .i64 0, .int .i64 0, .slice none 0 0, .slice none 0 0] 34)).set5 (.int .i64 yp2.kind) (.int .i64 yp2.index) (.int .i64 yp2.type.kind) (.slice Bp2 yp2.type.args.length ep2) (.slice Ap2 yp2.args.length cp2)) KNb.out (Nat.ne_of_lt KSLp2.out.1.lt) (.int .i64 yp1.kind) (.int .i64 yp1.index) (.int .i64 yp1.type.kind) (.slice Bp1 yp1.type.args.length ep1) (.slice Ap1 yp1.args.length cp1))) (Tp2.out.size) (KSLp2.out.2) (.inr V12.out.size) (.inl ltLp1) (.inr (Nat.le_refl _)) (.inl (Nat.lt_of_lt_of_le ltLp1 (Nat.le_trans szp1 szm))))
           have END3b := Lib.hid (two_end (g := gg) (W := W5) (P := Made G S 276 35) (Q := Made G S 276 35) (HXp1.out.1.mono (bdN3 S) (bd3O S)) (HXp2.out.1.mono (bdN2 S) (bdO2 S)) z_W5 gp1 gp2 HXp1.out.2 V12.out HXp2.out.2 Tp2.out (Turn.trans (Turn.grown (only_set5 wp2 _ (.int .i64 yp2.kind) (.int .i64 yp2.index) (.int .i64 yp2.type.kind) (.slice Bp2 yp2.type.args.length ep2) (.slice Ap2 yp2.args.length cp2)) (fun k e => by cases e; exact .inr rfl)) (Turn.alloc _ (Obj.cells #[.int .i64 yp1.kind, .int .i64 yp1.index, .int .i64 yp1.type.kind, .slice Bp1 yp1.type.args.length ep1, .slice Ap1 yp1.args.length cp1] 34))) (blk_after wp2 _ (.int .i64 yp2.kind) (.int .i64 yp2.index) (.int .i64 yp2.type.kind) (.slice Bp2 yp2.type.args.length ep2) (.slice Ap2 yp2.args.length cp2) #[.int .i64 yp1.kind, .int .i64 yp1.index, .int .i64 yp1.type.kind, .slice Bp1 yp1.type.args.length ep1, .slice Ap1 yp1.args.length cp1] 34) ((KSLp2.out.1.set5 (.int .i64 yp2.kind) (.int .i64 yp2.index) (.int .i64 yp2.type.kind) (.slice Bp2 yp2.type.args.length ep2) (.slice Ap2 yp2.args.length cp2)).alloc (Obj.cells #[.int .i64 yp1.kind, .int .i64 yp1.index, .int .i64 yp1.type.kind, .slice Bp1 yp1.type.args.length ep1, .slice Ap1 yp1.args.length cp1] 34)) (Tp2.out.size) (KSLp2.out.2) (.inr V12.out.size) (.inl ltLp1) (.inr (Nat.le_refl _)) (.inl (Nat.lt_of_lt_of_le ltLp1 (Nat.le_trans szp1 szm))))
           have END4b := Lib.hid (two_end (g := gg) (W := W5) (P := Made G S 276 35) (Q := Made G S 276 35) (HXp1.out.1.mono (bdN3 S) (bd3O S)) (HXp2.out.1.mono (bdN2 S) (bdO2 S)) z_W5 gp1 gp2 HXp1.out.2 V12.out HXp2.out.2 Tp2.out (Turn.trans (Turn.alloc wp2 (Obj.cells #[.int .i64 yp1.kind, .int .i64 yp1.index, .int .i64 yp1.type.kind, .slice Bp1 yp1.type.args.length ep1, .slice Ap1 yp1.args.length cp1] 34)) (Turn.grown (only_set5 _ _ (.int .i64 yp2.kind) (.int .i64 yp2.index) (.int .i64 yp2.type.kind) (.slice Bp2 yp2.type.args.length ep2) (.slice Ap2 yp2.args.length cp2)) (fun k e => by cases e; exact .inr rfl))) ((blk_beside (Blk.new wp2 34 #[.int .i64 yp1.kind, .int .i64 yp1.index, .int .i64 yp1.type.kind, .slice Bp1 yp1.type.args.length ep1, .slice Ap1 yp1.args.length cp1]) (KSLp2.out.1.alloc (Obj.cells #[.int .i64 yp1.kind, .int .i64 yp1.index, .int .i64 yp1.type.kind, .slice Bp1 yp1.type.args.length ep1, .slice Ap1 yp1.args.length cp1] 34)) (Nat.ne_of_gt KSLp2.out.1.lt) (.int .i64 yp2.kind) (.int .i64 yp2.index) (.int .i64 yp2.type.kind) (.slice Bp2 yp2.type.args.length ep2) (.slice Ap2 yp2.args.length cp2))) ((KSLp2.out.1.alloc (Obj.cells #[.int .i64 yp1.kind, .int .i64 yp1.index, .int .i64 yp1.type.kind, .slice Bp1 yp1.type.args.length ep1, .slice Ap1 yp1.args.length cp1] 34)).set5 (.int .i64 yp2.kind) (.int .i64 yp2.index) (.int .i64 yp2.type.kind) (.slice Bp2 yp2.type.args.length ep2) (.slice Ap2 yp2.args.length cp2)) (Tp2.out.size) (KSLp2.out.2) (.inr V12.out.size) (.inl ltLp1) (.inr (Nat.le_refl _)) (.inl (Nat.lt_of_lt_of_le ltLp1 (Nat.le_trans szp1 szm)))))
        | (go_at_call 15
           have Pp2 := term_any gg (4 * 2 + S.nodes + 1) G S 2 _ _ ((wp1.alloc (Obj.cells #[.int .i64 0, .int .i64 0, .int .i64 0, .slice none 0 0, .slice none 0 0] 34)).alloc (Obj.cells #[.int .i64 0, .int .i64 0, .int .i64 0, .slice none 0 0, .slice none 0 0] 34)) (by simp) (by omega) (by omega) (by simp; omega) HS.out.1 nS (Ctx.turn HC5.out ((Tp1.out.trans (tAl gg _ (Obj.cells #[.int .i64 0, .int .i64 0, .int .i64 0, .slice none 0 0, .slice none 0 0] 34))).trans (tAl gg _ (Obj.cells #[.int .i64 0, .int .i64 0, .int .i64 0, .slice none 0 0, .slice none 0 0] 34)))) (Typ.turn HS5.out ((Tp1.out.trans (tAl gg _ (Obj.cells #[.int .i64 0, .int .i64 0, .int .i64 0, .slice none 0 0, .slice none 0 0] 34))).trans (tAl gg _ (Obj.cells #[.int .i64 0, .int .i64 0, .int .i64 0, .slice none 0 0, .slice none 0 0] 34)))) (Deck.box (Deck.box Kp1.out (Obj.cells #[.int .i64 0, .int .i64 0, .int .i64 0, .slice none 0 0, .slice none 0 0] 34)) (Obj.cells #[.int .i64 0, .int .i64 0, .int .i64 0, .slice none 0 0, .slice none 0 0] 34))
           (with_reducible refine Pp2.mono ?_)
           rintro e wp2 ⟨yp2, vp2, rfl, mp2, tp2, kp2, up2⟩
           clear Pp2
           have Tp2 := Lib.hid (((Tp1.out.trans (tAl gg _ (Obj.cells #[.int .i64 0, .int .i64 0, .int .i64 0, .slice none 0 0, .slice none 0 0] 34))).trans (tAl gg _ (Obj.cells #[.int .i64 0, .int .i64 0, .int .i64 0, .slice none 0 0, .slice none 0 0] 34))).trans (up2))
           have Up2 := Lib.hid (((tAl gg _ (Obj.cells #[.int .i64 0, .int .i64 0, .int .i64 0, .slice none 0 0, .slice none 0 0] 34)).trans (tAl gg _ (Obj.cells #[.int .i64 0, .int .i64 0, .int .i64 0, .slice none 0 0, .slice none 0 0] 34))).trans (up2))
           obtain ⟨Bp2, ep2, Ap2, cp2, rfl, _⟩ := IsTm.form tp2
           have Kp2 := Lib.hid kp2
           obtain ⟨lp2, hlp2⟩ : ∃ lp2, lp2 = (((wp1.alloc (Obj.cells #[.int .i64 0, .int .i64 0, .int .i64 0, .slice none 0 0, .slice none 0 0] 34)).alloc (Obj.cells #[.int .i64 0, .int .i64 0, .int .i64 0, .slice none 0 0, .slice none 0 0] 34))).heap.size := ⟨_, rfl⟩
           have V12 := Lib.hid (show Turn (· = gg) wp1 wp2 from (((tAl gg _ (Obj.cells #[.int .i64 0, .int .i64 0, .int .i64 0, .slice none 0 0, .slice none 0 0] 34)).trans (tAl gg _ (Obj.cells #[.int .i64 0, .int .i64 0, .int .i64 0, .slice none 0 0, .slice none 0 0] 34))).trans (up2)))
           have gp2 : W5.heap.size ≤ lp2 := by rw [hlp2]; exact (show W5.heap.size ≤ (((wp1.alloc (Obj.cells #[.int .i64 0, .int .i64 0, .int .i64 0, .slice none 0 0, .slice none 0 0] 34)).alloc (Obj.cells #[.int .i64 0, .int .i64 0, .int .i64 0, .slice none 0 0, .slice none 0 0] 34))).heap.size from (((Tp1.out.trans (tAl gg _ (Obj.cells #[.int .i64 0, .int .i64 0, .int .i64 0, .slice none 0 0, .slice none 0 0] 34))).trans (tAl gg _ (Obj.cells #[.int .i64 0, .int .i64 0, .int .i64 0, .slice none 0 0, .slice none 0 0] 34)))).size)
           have szp2 : lp2 ≤ wp2.heap.size := by rw [hlp2]; exact up2.size
           have szm : wp1.heap.size ≤ lp2 := by rw [hlp2]; simp <;> omega
           have ltLp2 : wp1.heap.size < lp2 := by rw [hlp2]; simp <;> omega
           have ltMp2 : wp1.heap.size + 1 < lp2 := by rw [hlp2]; simp <;> omega
           have HXp2 := Lib.hid (And.intro mp2 (show IsTm (fun b => lp2 ≤ b ∧ b < wp2.heap.size) wp2 yp2 _ by rw [hlp2]; exact tp2))
           clear kp2 mp2 tp2 hlp2
           have KSLp2 := Lib.hid (And.intro (Turn.blk (((tAl gg _ (Obj.cells #[.int .i64 0, .int .i64 0, .int .i64 0, .slice none 0 0, .slice none 0 0] 34)).trans (up2))) (Blk.new wp1 34 #[.int .i64 0, .int .i64 0, .int .i64 0, .slice none 0 0, .slice none 0 0]) (by have := Tp1.out.size; omega)) (show W5.heap.size ≤ wp1.heap.size by have := Tp1.out.size; omega))
           have KSMp2 := Lib.hid (And.intro (Turn.blk ((up2)) (blk_new1 wp1 (Obj.cells #[.int .i64 0, .int .i64 0, .int .i64 0, .slice none 0 0, .slice none 0 0] 34) #[.int .i64 0, .int .i64 0, .int .i64 0, .slice none 0 0, .slice none 0 0] 34) (by have := Tp1.out.size; omega)) (show W5.heap.size ≤ wp1.heap.size + 1 by have := Tp1.out.size; omega))
           have Qp2 := Lib.hid (Turn.free (n := W5.heap.size - 1) Tp2.out)
           have Qp2L := Lib.hid (Turn.free (n := W5.heap.size - 1) (Tp2.out.trans (tAl gg _ (Obj.cells #[.int .i64 0, .int .i64 0, .int .i64 0, .slice none 0 0, .slice none 0 0] 34))))
           have Qp2LM := Lib.hid (Turn.free (n := W5.heap.size - 1) ((Tp2.out.trans (tAl gg _ (Obj.cells #[.int .i64 0, .int .i64 0, .int .i64 0, .slice none 0 0, .slice none 0 0] 34))).trans (tAl gg _ (Obj.cells #[.int .i64 0, .int .i64 0, .int .i64 0, .slice none 0 0, .slice none 0 0] 34))))
           obtain ⟨_, _, _, _, _, f0, f1, f2, f3, f4⟩ := KSLp2.out.1.facts5
           obtain ⟨_, _, _, _, _, g0, g1, g2, g3, g4⟩ := KSMp2.out.1.facts5
           have KOa := Lib.hid (blk_beside KSMp2.out.1 KSLp2.out.1 (Nat.succ_ne_self _) (.int .i64 yp1.kind) (.int .i64 yp1.index) (.int .i64 yp1.type.kind) (.slice Bp1 yp1.type.args.length ep1) (.slice Ap1 yp1.args.length cp1))
           have QZAa := Lib.hid (Turn.trans Qp2.out (free_five KSLp2.out z_W5 (.int .i64 yp1.kind) (.int .i64 yp1.index) (.int .i64 yp1.type.kind) (.slice Bp1 yp1.type.args.length ep1) (.slice Ap1 yp1.args.length cp1)))
           have QZEa := Lib.hid (Turn.trans (Turn.trans Qp2.out (free_five KSLp2.out z_W5 (.int .i64 yp1.kind) (.int .i64 yp1.index) (.int .i64 yp1.type.kind) (.slice Bp1 yp1.type.args.length ep1) (.slice Ap1 yp1.args.length cp1))) (free_five (And.intro KOa.out KSMp2.out.2) z_W5 (.int .i64 yp2.kind) (.int .i64 yp2.index) (.int .i64 yp2.type.kind) (.slice Bp2 yp2.type.args.length ep2) (.slice Ap2 yp2.args.length cp2)))
           have END7a := Lib.hid (two_end (g := gg) (W := W5) (P := Made G S 276 35) (Q := Made G S 276 35) (HXp1.out.1.mono (bdN3 S) (bd3O S)) (HXp2.out.1.mono (bdN2 S) (bdO2 S)) z_W5 gp1 gp2 HXp1.out.2 V12.out HXp2.out.2 Tp2.out (Turn.trans (Turn.grown (only_set5 wp2 _ (.int .i64 yp1.kind) (.int .i64 yp1.index) (.int .i64 yp1.type.kind) (.slice Bp1 yp1.type.args.length ep1) (.slice Ap1 yp1.args.length cp1)) (fun k e => by cases e; exact .inl rfl)) (Turn.grown (only_set5 _ _ (.int .i64 yp2.kind) (.int .i64 yp2.index) (.int .i64 yp2.type.kind) (.slice Bp2 yp2.type.args.length ep2) (.slice Ap2 yp2.args.length cp2)) (fun k e => by cases e; exact .inr rfl))) ((blk_beside (KSLp2.out.1.set5 (.int .i64 yp1.kind) (.int .i64 yp1.index) (.int .i64 yp1.type.kind) (.slice Bp1 yp1.type.args.length ep1) (.slice Ap1 yp1.args.length cp1)) KOa.out ((Nat.succ_ne_self _)).symm (.int .i64 yp2.kind) (.int .i64 yp2.index) (.int .i64 yp2.type.kind) (.slice Bp2 yp2.type.args.length ep2) (.slice Ap2 yp2.args.length cp2))) ((KOa.out.set5 (.int .i64 yp2.kind) (.int .i64 yp2.index) (.int .i64 yp2.type.kind) (.slice Bp2 yp2.type.args.length ep2) (.slice Ap2 yp2.args.length cp2))) (KSLp2.out.2) (KSMp2.out.2) (.inr (Nat.le_refl _)) (.inr (Nat.le_succ _)) (.inl ltLp2) (.inl ltMp2))
           obtain ⟨_, _, _, _, _, a0, a1, a2, a3, a4⟩ := KOa.out.facts5
           have KOb := Lib.hid (blk_beside KSLp2.out.1 KSMp2.out.1 (Nat.succ_ne_self _).symm (.int .i64 yp1.kind) (.int .i64 yp1.index) (.int .i64 yp1.type.kind) (.slice Bp1 yp1.type.args.length ep1) (.slice Ap1 yp1.args.length cp1))
           have QZAb := Lib.hid (Turn.trans Qp2.out (free_five KSMp2.out z_W5 (.int .i64 yp1.kind) (.int .i64 yp1.index) (.int .i64 yp1.type.kind) (.slice Bp1 yp1.type.args.length ep1) (.slice Ap1 yp1.args.length cp1)))
           have QZEb := Lib.hid (Turn.trans (Turn.trans Qp2.out (free_five KSMp2.out z_W5 (.int .i64 yp1.kind) (.int .i64 yp1.index) (.int .i64 yp1.type.kind) (.slice Bp1 yp1.type.args.length ep1) (.slice Ap1 yp1.args.length cp1))) (free_five (And.intro KOb.out KSLp2.out.2) z_W5 (.int .i64 yp2.kind) (.int .i64 yp2.index) (.int .i64 yp2.type.kind) (.slice Bp2 yp2.type.args.length ep2) (.slice Ap2 yp2.args.length cp2)))
           have END7b := Lib.hid (two_end (g := gg) (W := W5) (P := Made G S 276 35) (Q := Made G S 276 35) (HXp1.out.1.mono (bdN3 S) (bd3O S)) (HXp2.out.1.mono (bdN2 S) (bdO2 S)) z_W5 gp1 gp2 HXp1.out.2 V12.out HXp2.out.2 Tp2.out (Turn.trans (Turn.grown (only_set5 wp2 _ (.int .i64 yp1.kind) (.int .i64 yp1.index) (.int .i64 yp1.type.kind) (.slice Bp1 yp1.type.args.length ep1) (.slice Ap1 yp1.args.length cp1)) (fun k e => by cases e; exact .inl rfl)) (Turn.grown (only_set5 _ _ (.int .i64 yp2.kind) (.int .i64 yp2.index) (.int .i64 yp2.type.kind) (.slice Bp2 yp2.type.args.length ep2) (.slice Ap2 yp2.args.length cp2)) (fun k e => by cases e; exact .inr rfl))) ((blk_beside (KSMp2.out.1.set5 (.int .i64 yp1.kind) (.int .i64 yp1.index) (.int .i64 yp1.type.kind) (.slice Bp1 yp1.type.args.length ep1) (.slice Ap1 yp1.args.length cp1)) KOb.out ((Nat.succ_ne_self _).symm).symm (.int .i64 yp2.kind) (.int .i64 yp2.index) (.int .i64 yp2.type.kind) (.slice Bp2 yp2.type.args.length ep2) (.slice Ap2 yp2.args.length cp2))) ((KOb.out.set5 (.int .i64 yp2.kind) (.int .i64 yp2.index) (.int .i64 yp2.type.kind) (.slice Bp2 yp2.type.args.length ep2) (.slice Ap2 yp2.args.length cp2))) (KSMp2.out.2) (KSLp2.out.2) (.inr (Nat.le_succ _)) (.inr (Nat.le_refl _)) (.inl ltMp2) (.inl ltLp2))
           obtain ⟨_, _, _, _, _, b0, b1, b2, b3, b4⟩ := KOb.out.facts5)
        | (go_at_call 15
           have Pp2 := term_any gg (4 * 2 + S.nodes + 1) G S 2 _ _ (wp1.alloc (Obj.cells #[.int .i64 0, .int .i64 0, .int .i64 0, .slice none 0 0, .slice none 0 0] 34)) (by simp) (by omega) (by omega) (by simp; omega) HS.out.1 nS (Ctx.turn HC5.out (Tp1.out.trans (tAl gg _ (Obj.cells #[.int .i64 0, .int .i64 0, .int .i64 0, .slice none 0 0, .slice none 0 0] 34)))) (Typ.turn HS5.out (Tp1.out.trans (tAl gg _ (Obj.cells #[.int .i64 0, .int .i64 0, .int .i64 0, .slice none 0 0, .slice none 0 0] 34)))) (Deck.box Kp1.out (Obj.cells #[.int .i64 0, .int .i64 0, .int .i64 0, .slice none 0 0, .slice none 0 0] 34))
           (with_reducible refine Pp2.mono ?_)
           rintro e wp2 ⟨yp2, vp2, rfl, mp2, tp2, kp2, up2⟩
           clear Pp2
           have Tp2 := Lib.hid ((Tp1.out.trans (tAl gg _ (Obj.cells #[.int .i64 0, .int .i64 0, .int .i64 0, .slice none 0 0, .slice none 0 0] 34))).trans (up2))
           have Up2 := Lib.hid ((tAl gg _ (Obj.cells #[.int .i64 0, .int .i64 0, .int .i64 0, .slice none 0 0, .slice none 0 0] 34)).trans (up2))
           obtain ⟨Bp2, ep2, Ap2, cp2, rfl, _⟩ := IsTm.form tp2
           have Kp2 := Lib.hid kp2
           obtain ⟨lp2, hlp2⟩ : ∃ lp2, lp2 = ((wp1.alloc (Obj.cells #[.int .i64 0, .int .i64 0, .int .i64 0, .slice none 0 0, .slice none 0 0] 34))).heap.size := ⟨_, rfl⟩
           have V12 := Lib.hid (show Turn (· = gg) wp1 wp2 from ((tAl gg _ (Obj.cells #[.int .i64 0, .int .i64 0, .int .i64 0, .slice none 0 0, .slice none 0 0] 34)).trans (up2)))
           have gp2 : W5.heap.size ≤ lp2 := by rw [hlp2]; exact (show W5.heap.size ≤ ((wp1.alloc (Obj.cells #[.int .i64 0, .int .i64 0, .int .i64 0, .slice none 0 0, .slice none 0 0] 34))).heap.size from ((Tp1.out.trans (tAl gg _ (Obj.cells #[.int .i64 0, .int .i64 0, .int .i64 0, .slice none 0 0, .slice none 0 0] 34)))).size)
           have szp2 : lp2 ≤ wp2.heap.size := by rw [hlp2]; exact up2.size
           have szm : wp1.heap.size ≤ lp2 := by rw [hlp2]; simp <;> omega
           have ltLp2 : wp1.heap.size < lp2 := by rw [hlp2]; simp <;> omega
           have HXp2 := Lib.hid (And.intro mp2 (show IsTm (fun b => lp2 ≤ b ∧ b < wp2.heap.size) wp2 yp2 _ by rw [hlp2]; exact tp2))
           clear kp2 mp2 tp2 hlp2
           have KSLp2 := Lib.hid (And.intro (Turn.blk ((up2)) (Blk.new wp1 34 #[.int .i64 0, .int .i64 0, .int .i64 0, .slice none 0 0, .slice none 0 0]) (by have := Tp1.out.size; omega)) (show W5.heap.size ≤ wp1.heap.size by have := Tp1.out.size; omega))
           try (have KSMp2 := Lib.hid (And.intro (Turn.blk Up2.out KSMp1.out.1 (by have := KSMp1.out.2; omega)) KSMp1.out.2))
           have Qp2 := Lib.hid (Turn.free (n := W5.heap.size - 1) Tp2.out)
           have Qp2L := Lib.hid (Turn.free (n := W5.heap.size - 1) (Tp2.out.trans (tAl gg _ (Obj.cells #[.int .i64 0, .int .i64 0, .int .i64 0, .slice none 0 0, .slice none 0 0] 34))))
           have Qp2LM := Lib.hid (Turn.free (n := W5.heap.size - 1) ((Tp2.out.trans (tAl gg _ (Obj.cells #[.int .i64 0, .int .i64 0, .int .i64 0, .slice none 0 0, .slice none 0 0] 34))).trans (tAl gg _ (Obj.cells #[.int .i64 0, .int .i64 0, .int .i64 0, .slice none 0 0, .slice none 0 0] 34))))
           have QZCz := Lib.hid (Turn.free (n := W5.heap.size - 1) (Turn.trans Tp2.out (tAl gg _ (Obj.cells #[.int .i64 0, .int .i64 0, .int .i64 0, .slice none 0 0, .slice none 0 0] 34))))
           have QZCx := Lib.hid (Turn.free (n := W5.heap.size - 1) (Turn.trans Tp2.out (tAl gg _ (Obj.cells #[.int .i64 yp1.kind, .int .i64 yp1.index, .int .i64 yp1.type.kind, .slice Bp1 yp1.type.args.length ep1, .slice Ap1 yp1.args.length cp1] 34))))
           have QZCy := Lib.hid (Turn.free (n := W5.heap.size - 1) (Turn.trans Tp2.out (tAl gg _ (Obj.cells #[.int .i64 yp2.kind, .int .i64 yp2.index, .int .i64 yp2.type.kind, .slice Bp2 yp2.type.args.length ep2, .slice Ap2 yp2.args.length cp2] 34))))
           obtain ⟨_, _, _, _, _, f0, f1, f2, f3, f4⟩ := KSLp2.out.1.facts5
           obtain ⟨_, _, _, _, _, g0, g1, g2, g3, g4⟩ := (KSLp2.out.1.alloc (Obj.cells #[.int .i64 0, .int .i64 0, .int .i64 0, .slice none 0 0, .slice none 0 0] 34)).facts5
           obtain ⟨_, _, _, _, _, h0, h1, h2, h3, h4⟩ := (KSLp2.out.1.alloc (Obj.cells #[.int .i64 yp1.kind, .int .i64 yp1.index, .int .i64 yp1.type.kind, .slice Bp1 yp1.type.args.length ep1, .slice Ap1 yp1.args.length cp1] 34)).facts5
           obtain ⟨_, _, _, _, _, i0, i1, i2, i3, i4⟩ := (KSLp2.out.1.alloc (Obj.cells #[.int .i64 yp2.kind, .int .i64 yp2.index, .int .i64 yp2.type.kind, .slice Bp2 yp2.type.args.length ep2, .slice Ap2 yp2.args.length cp2] 34)).facts5
           have QZAa := Lib.hid (Turn.trans Qp2.out (free_five KSLp2.out z_W5 (.int .i64 yp1.kind) (.int .i64 yp1.index) (.int .i64 yp1.type.kind) (.slice Bp1 yp1.type.args.length ep1) (.slice Ap1 yp1.args.length cp1)))
           have QZBza := Lib.hid (Turn.trans (Turn.trans Qp2.out (free_five KSLp2.out z_W5 (.int .i64 yp1.kind) (.int .i64 yp1.index) (.int .i64 yp1.type.kind) (.slice Bp1 yp1.type.args.length ep1) (.slice Ap1 yp1.args.length cp1))) (Turn.alloc _ (Obj.cells #[.int .i64 0, .int .i64 0, .int .i64 0, .slice none 0 0, .slice none 0 0] 34)))
           have QZDza := Lib.hid (Turn.trans (Turn.free (n := W5.heap.size - 1) (Turn.trans Tp2.out (tAl gg _ (Obj.cells #[.int .i64 0, .int .i64 0, .int .i64 0, .slice none 0 0, .slice none 0 0] 34)))) (free_five (And.intro (KSLp2.out.1.alloc (Obj.cells #[.int .i64 0, .int .i64 0, .int .i64 0, .slice none 0 0, .slice none 0 0] 34)) KSLp2.out.2) z_W5 (.int .i64 yp1.kind) (.int .i64 yp1.index) (.int .i64 yp1.type.kind) (.slice Bp1 yp1.type.args.length ep1) (.slice Ap1 yp1.args.length cp1)))
           have QZBoa := Lib.hid (Turn.trans (Turn.trans Qp2.out (free_five KSLp2.out z_W5 (.int .i64 yp1.kind) (.int .i64 yp1.index) (.int .i64 yp1.type.kind) (.slice Bp1 yp1.type.args.length ep1) (.slice Ap1 yp1.args.length cp1))) (Turn.alloc _ (Obj.cells #[.int .i64 yp2.kind, .int .i64 yp2.index, .int .i64 yp2.type.kind, .slice Bp2 yp2.type.args.length ep2, .slice Ap2 yp2.args.length cp2] 34)))
           have QZDoa := Lib.hid (Turn.trans (Turn.free (n := W5.heap.size - 1) (Turn.trans Tp2.out (tAl gg _ (Obj.cells #[.int .i64 yp2.kind, .int .i64 yp2.index, .int .i64 yp2.type.kind, .slice Bp2 yp2.type.args.length ep2, .slice Ap2 yp2.args.length cp2] 34)))) (free_five (And.intro (KSLp2.out.1.alloc (Obj.cells #[.int .i64 yp2.kind, .int .i64 yp2.index, .int .i64 yp2.type.kind, .slice Bp2 yp2.type.args.length ep2, .slice Ap2 yp2.args.length cp2] 34)) KSLp2.out.2) z_W5 (.int .i64 yp1.kind) (.int .i64 yp1.index) (.int .i64 yp1.type.kind) (.slice Bp1 yp1.type.args.length ep1) (.slice Ap1 yp1.args.length cp1)))
           have KNa := Lib.hid (blk_beside (Blk.new wp2 34 #[.int .i64 0, .int .i64 0, .int .i64 0, .slice none 0 0, .slice none 0 0]) (KSLp2.out.1.alloc (Obj.cells #[.int .i64 0, .int .i64 0, .int .i64 0, .slice none 0 0, .slice none 0 0] 34)) (Nat.ne_of_gt KSLp2.out.1.lt) (.int .i64 yp1.kind) (.int .i64 yp1.index) (.int .i64 yp1.type.kind) (.slice Bp1 yp1.type.args.length ep1) (.slice Ap1 yp1.args.length cp1))
           obtain ⟨_, _, _, _, _, a0, a1, a2, a3, a4⟩ := KNa.out.facts5
           have QZFa := Lib.hid (Turn.trans (Turn.trans (Turn.free (n := W5.heap.size - 1) (Turn.trans Tp2.out (tAl gg _ (Obj.cells #[.int .i64 0, .int .i64 0, .int .i64 0, .slice none 0 0, .slice none 0 0] 34)))) (free_five (And.intro (KSLp2.out.1.alloc (Obj.cells #[.int .i64 0, .int .i64 0, .int .i64 0, .slice none 0 0, .slice none 0 0] 34)) KSLp2.out.2) z_W5 (.int .i64 yp1.kind) (.int .i64 yp1.index) (.int .i64 yp1.type.kind) (.slice Bp1 yp1.type.args.length ep1) (.slice Ap1 yp1.args.length cp1))) (free_five (And.intro KNa.out Tp2.out.size) z_W5 (.int .i64 yp2.kind) (.int .i64 yp2.index) (.int .i64 yp2.type.kind) (.slice Bp2 yp2.type.args.length ep2) (.slice Ap2 yp2.args.length cp2)))
           have END5a := Lib.hid (two_end (g := gg) (W := W5) (P := Made G S 276 35) (Q := Made G S 276 35) (HXp1.out.1.mono (bdN3 S) (bd3O S)) (HXp2.out.1.mono (bdN2 S) (bdO2 S)) z_W5 gp1 gp2 HXp1.out.2 V12.out HXp2.out.2 Tp2.out (Turn.trans (Turn.trans (Turn.alloc wp2 (Obj.cells #[.int .i64 0, .int .i64 0, .int .i64 0, .slice none 0 0, .slice none 0 0] 34)) (Turn.grown (only_set5 _ _ (.int .i64 yp1.kind) (.int .i64 yp1.index) (.int .i64 yp1.type.kind) (.slice Bp1 yp1.type.args.length ep1) (.slice Ap1 yp1.args.length cp1)) (fun k e => by cases e; exact .inl rfl))) (Turn.grown (only_set5 _ _ (.int .i64 yp2.kind) (.int .i64 yp2.index) (.int .i64 yp2.type.kind) (.slice Bp2 yp2.type.args.length ep2) (.slice Ap2 yp2.args.length cp2)) (fun k e => by cases e; exact .inr rfl))) ((blk_beside ((KSLp2.out.1.alloc (Obj.cells #[.int .i64 0, .int .i64 0, .int .i64 0, .slice none 0 0, .slice none 0 0] 34)).set5 (.int .i64 yp1.kind) (.int .i64 yp1.index) (.int .i64 yp1.type.kind) (.slice Bp1 yp1.type.args.length ep1) (.slice Ap1 yp1.args.length cp1)) KNa.out (Nat.ne_of_lt KSLp2.out.1.lt) (.int .i64 yp2.kind) (.int .i64 yp2.index) (.int .i64 yp2.type.kind) (.slice Bp2 yp2.type.args.length ep2) (.slice Ap2 yp2.args.length cp2))) ((KNa.out.set5 (.int .i64 yp2.kind) (.int .i64 yp2.index) (.int .i64 yp2.type.kind) (.slice Bp2 yp2.type.args.length ep2) (.slice Ap2 yp2.args.length cp2))) (KSLp2.out.2) (Tp2.out.size) (.inr (Nat.le_refl _)) (.inr V12.out.size) (.inl ltLp2) (.inr (Nat.le_refl _)))
           have END3a := Lib.hid (two_end (g := gg) (W := W5) (P := Made G S 276 35) (Q := Made G S 276 35) (HXp1.out.1.mono (bdN3 S) (bd3O S)) (HXp2.out.1.mono (bdN2 S) (bdO2 S)) z_W5 gp1 gp2 HXp1.out.2 V12.out HXp2.out.2 Tp2.out (Turn.trans (Turn.grown (only_set5 wp2 _ (.int .i64 yp1.kind) (.int .i64 yp1.index) (.int .i64 yp1.type.kind) (.slice Bp1 yp1.type.args.length ep1) (.slice Ap1 yp1.args.length cp1)) (fun k e => by cases e; exact .inl rfl)) (Turn.alloc _ (Obj.cells #[.int .i64 yp2.kind, .int .i64 yp2.index, .int .i64 yp2.type.kind, .slice Bp2 yp2.type.args.length ep2, .slice Ap2 yp2.args.length cp2] 34))) ((KSLp2.out.1.set5 (.int .i64 yp1.kind) (.int .i64 yp1.index) (.int .i64 yp1.type.kind) (.slice Bp1 yp1.type.args.length ep1) (.slice Ap1 yp1.args.length cp1)).alloc (Obj.cells #[.int .i64 yp2.kind, .int .i64 yp2.index, .int .i64 yp2.type.kind, .slice Bp2 yp2.type.args.length ep2, .slice Ap2 yp2.args.length cp2] 34)) (blk_after wp2 _ (.int .i64 yp1.kind) (.int .i64 yp1.index) (.int .i64 yp1.type.kind) (.slice Bp1 yp1.type.args.length ep1) (.slice Ap1 yp1.args.length cp1) #[.int .i64 yp2.kind, .int .i64 yp2.index, .int .i64 yp2.type.kind, .slice Bp2 yp2.type.args.length ep2, .slice Ap2 yp2.args.length cp2] 34) (KSLp2.out.2) (Tp2.out.size) (.inr (Nat.le_refl _)) (.inr V12.out.size) (.inl ltLp2) (.inr (Nat.le_refl _)))
           have END4a := Lib.hid (two_end (g := gg) (W := W5) (P := Made G S 276 35) (Q := Made G S 276 35) (HXp1.out.1.mono (bdN3 S) (bd3O S)) (HXp2.out.1.mono (bdN2 S) (bdO2 S)) z_W5 gp1 gp2 HXp1.out.2 V12.out HXp2.out.2 Tp2.out (Turn.trans (Turn.alloc wp2 (Obj.cells #[.int .i64 yp2.kind, .int .i64 yp2.index, .int .i64 yp2.type.kind, .slice Bp2 yp2.type.args.length ep2, .slice Ap2 yp2.args.length cp2] 34)) (Turn.grown (only_set5 _ _ (.int .i64 yp1.kind) (.int .i64 yp1.index) (.int .i64 yp1.type.kind) (.slice Bp1 yp1.type.args.length ep1) (.slice Ap1 yp1.args.length cp1)) (fun k e => by cases e; exact .inl rfl))) ((KSLp2.out.1.alloc (Obj.cells #[.int .i64 yp2.kind, .int .i64 yp2.index, .int .i64 yp2.type.kind, .slice Bp2 yp2.type.args.length ep2, .slice Ap2 yp2.args.length cp2] 34)).set5 (.int .i64 yp1.kind) (.int .i64 yp1.index) (.int .i64 yp1.type.kind) (.slice Bp1 yp1.type.args.length ep1) (.slice Ap1 yp1.args.length cp1)) ((blk_beside (Blk.new wp2 34 #[.int .i64 yp2.kind, .int .i64 yp2.index, .int .i64 yp2.type.kind, .slice Bp2 yp2.type.args.length ep2, .slice Ap2 yp2.args.length cp2]) (KSLp2.out.1.alloc (Obj.cells #[.int .i64 yp2.kind, .int .i64 yp2.index, .int .i64 yp2.type.kind, .slice Bp2 yp2.type.args.length ep2, .slice Ap2 yp2.args.length cp2] 34)) (Nat.ne_of_gt KSLp2.out.1.lt) (.int .i64 yp1.kind) (.int .i64 yp1.index) (.int .i64 yp1.type.kind) (.slice Bp1 yp1.type.args.length ep1) (.slice Ap1 yp1.args.length cp1))) (KSLp2.out.2) (Tp2.out.size) (.inr (Nat.le_refl _)) (.inr V12.out.size) (.inl ltLp2) (.inr (Nat.le_refl _)))
           have QZAb := Lib.hid (Turn.trans Qp2.out (free_five KSLp2.out z_W5 (.int .i64 yp2.kind) (.int .i64 yp2.index) (.int .i64 yp2.type.kind) (.slice Bp2 yp2.type.args.length ep2) (.slice Ap2 yp2.args.length cp2)))
           have QZBzb := Lib.hid (Turn.trans (Turn.trans Qp2.out (free_five KSLp2.out z_W5 (.int .i64 yp2.kind) (.int .i64 yp2.index) (.int .i64 yp2.type.kind) (.slice Bp2 yp2.type.args.length ep2) (.slice Ap2 yp2.args.length cp2))) (Turn.alloc _ (Obj.cells #[.int .i64 0, .int .i64 0, .int .i64 0, .slice none 0 0, .slice none 0 0] 34)))
           have QZDzb := Lib.hid (Turn.trans (Turn.free (n := W5.heap.size - 1) (Turn.trans Tp2.out (tAl gg _ (Obj.cells #[.int .i64 0, .int .i64 0, .int .i64 0, .slice none 0 0, .slice none 0 0] 34)))) (free_five (And.intro (KSLp2.out.1.alloc (Obj.cells #[.int .i64 0, .int .i64 0, .int .i64 0, .slice none 0 0, .slice none 0 0] 34)) KSLp2.out.2) z_W5 (.int .i64 yp2.kind) (.int .i64 yp2.index) (.int .i64 yp2.type.kind) (.slice Bp2 yp2.type.args.length ep2) (.slice Ap2 yp2.args.length cp2)))
           have QZBob := Lib.hid (Turn.trans (Turn.trans Qp2.out (free_five KSLp2.out z_W5 (.int .i64 yp2.kind) (.int .i64 yp2.index) (.int .i64 yp2.type.kind) (.slice Bp2 yp2.type.args.length ep2) (.slice Ap2 yp2.args.length cp2))) (Turn.alloc _ (Obj.cells #[.int .i64 yp1.kind, .int .i64 yp1.index, .int .i64 yp1.type.kind, .slice Bp1 yp1.type.args.length ep1, .slice Ap1 yp1.args.length cp1] 34)))
           have QZDob := Lib.hid (Turn.trans (Turn.free (n := W5.heap.size - 1) (Turn.trans Tp2.out (tAl gg _ (Obj.cells #[.int .i64 yp1.kind, .int .i64 yp1.index, .int .i64 yp1.type.kind, .slice Bp1 yp1.type.args.length ep1, .slice Ap1 yp1.args.length cp1] 34)))) (free_five (And.intro (KSLp2.out.1.alloc (Obj.cells #[.int .i64 yp1.kind, .int .i64 yp1.index, .int .i64 yp1.type.kind, .slice Bp1 yp1.type.args.length ep1, .slice Ap1 yp1.args.length cp1] 34)) KSLp2.out.2) z_W5 (.int .i64 yp2.kind) (.int .i64 yp2.index) (.int .i64 yp2.type.kind) (.slice Bp2 yp2.type.args.length ep2) (.slice Ap2 yp2.args.length cp2)))
           have KNb := Lib.hid (blk_beside (Blk.new wp2 34 #[.int .i64 0, .int .i64 0, .int .i64 0, .slice none 0 0, .slice none 0 0]) (KSLp2.out.1.alloc (Obj.cells #[.int .i64 0, .int .i64 0, .int .i64 0, .slice none 0 0, .slice none 0 0] 34)) (Nat.ne_of_gt KSLp2.out.1.lt) (.int .i64 yp2.kind) (.int .i64 yp2.index) (.int .i64 yp2.type.kind) (.slice Bp2 yp2.type.args.length ep2) (.slice Ap2 yp2.args.length cp2))
           obtain ⟨_, _, _, _, _, b0, b1, b2, b3, b4⟩ := KNb.out.facts5
           have QZFb := Lib.hid (Turn.trans (Turn.trans (Turn.free (n := W5.heap.size - 1) (Turn.trans Tp2.out (tAl gg _ (Obj.cells #[.int .i64 0, .int .i64 0, .int .i64 0, .slice none 0 0, .slice none 0 0] 34)))) (free_five (And.intro (KSLp2.out.1.alloc (Obj.cells #[.int .i64 0, .int .i64 0, .int .i64 0, .slice none 0 0, .slice none 0 0] 34)) KSLp2.out.2) z_W5 (.int .i64 yp2.kind) (.int .i64 yp2.index) (.int .i64 yp2.type.kind) (.slice Bp2 yp2.type.args.length ep2) (.slice Ap2 yp2.args.length cp2))) (free_five (And.intro KNb.out Tp2.out.size) z_W5 (.int .i64 yp1.kind) (.int .i64 yp1.index) (.int .i64 yp1.type.kind) (.slice Bp1 yp1.type.args.length ep1) (.slice Ap1 yp1.args.length cp1)))
           have END5b := Lib.hid (two_end (g := gg) (W := W5) (P := Made G S 276 35) (Q := Made G S 276 35) (HXp1.out.1.mono (bdN3 S) (bd3O S)) (HXp2.out.1.mono (bdN2 S) (bdO2 S)) z_W5 gp1 gp2 HXp1.out.2 V12.out HXp2.out.2 Tp2.out (Turn.trans (Turn.trans (Turn.alloc wp2 (Obj.cells #[.int .i64 0, .int .i64 0, .int .i64 0, .slice none 0 0, .slice none 0 0] 34)) (Turn.grown (only_set5 _ _ (.int .i64 yp2.kind) (.int .i64 yp2.index) (.int .i64 yp2.type.kind) (.slice Bp2 yp2.type.args.length ep2) (.slice Ap2 yp2.args.length cp2)) (fun k e => by cases e; exact .inr rfl))) (Turn.grown (only_set5 _ _ (.int .i64 yp1.kind) (.int .i64 yp1.index) (.int .i64 yp1.type.kind) (.slice Bp1 yp1.type.args.length ep1) (.slice Ap1 yp1.args.length cp1)) (fun k e => by cases e; exact .inl rfl))) ((KNb.out.set5 (.int .i64 yp1.kind) (.int .i64 yp1.index) (.int .i64 yp1.type.kind) (.slice Bp1 yp1.type.args.length ep1) (.slice Ap1 yp1.args.length cp1))) ((blk_beside ((KSLp2.out.1.alloc (Obj.cells #[.int .i64 0, .int .i64 0, .int .i64 0, .slice none 0 0, .slice none 0 0] 34)).set5 (.int .i64 yp2.kind) (.int .i64 yp2.index) (.int .i64 yp2.type.kind) (.slice Bp2 yp2.type.args.length ep2) (.slice Ap2 yp2.args.length cp2)) KNb.out (Nat.ne_of_lt KSLp2.out.1.lt) (.int .i64 yp1.kind) (.int .i64 yp1.index) (.int .i64 yp1.type.kind) (.slice Bp1 yp1.type.args.length ep1) (.slice Ap1 yp1.args.length cp1))) (Tp2.out.size) (KSLp2.out.2) (.inr V12.out.size) (.inr (Nat.le_refl _)) (.inr (Nat.le_refl _)) (.inl ltLp2))
           have END3b := Lib.hid (two_end (g := gg) (W := W5) (P := Made G S 276 35) (Q := Made G S 276 35) (HXp1.out.1.mono (bdN3 S) (bd3O S)) (HXp2.out.1.mono (bdN2 S) (bdO2 S)) z_W5 gp1 gp2 HXp1.out.2 V12.out HXp2.out.2 Tp2.out (Turn.trans (Turn.grown (only_set5 wp2 _ (.int .i64 yp2.kind) (.int .i64 yp2.index) (.int .i64 yp2.type.kind) (.slice Bp2 yp2.type.args.length ep2) (.slice Ap2 yp2.args.length cp2)) (fun k e => by cases e; exact .inr rfl)) (Turn.alloc _ (Obj.cells #[.int .i64 yp1.kind, .int .i64 yp1.index, .int .i64 yp1.type.kind, .slice Bp1 yp1.type.args.length ep1, .slice Ap1 yp1.args.length cp1] 34))) (blk_after wp2 _ (.int .i64 yp2.kind) (.int .i64 yp2.index) (.int .i64 yp2.type.kind) (.slice Bp2 yp2.type.args.length ep2) (.slice Ap2 yp2.args.length cp2) #[.int .i64 yp1.kind, .int .i64 yp1.index, .int .i64 yp1.type.kind, .slice Bp1 yp1.type.args.length ep1, .slice Ap1 yp1.args.length cp1] 34) ((KSLp2.out.1.set5 (.int .i64 yp2.kind) (.int .i64 yp2.index) (.int .i64 yp2.type.kind) (.slice Bp2 yp2.type.args.length ep2) (.slice Ap2 yp2.args.length cp2)).alloc (Obj.cells #[.int .i64 yp1.kind, .int .i64 yp1.index, .int .i64 yp1.type.kind, .slice Bp1 yp1.type.args.length ep1, .slice Ap1 yp1.args.length cp1] 34)) (Tp2.out.size) (KSLp2.out.2) (.inr V12.out.size) (.inr (Nat.le_refl _)) (.inr (Nat.le_refl _)) (.inl ltLp2))
           have END4b := Lib.hid (two_end (g := gg) (W := W5) (P := Made G S 276 35) (Q := Made G S 276 35) (HXp1.out.1.mono (bdN3 S) (bd3O S)) (HXp2.out.1.mono (bdN2 S) (bdO2 S)) z_W5 gp1 gp2 HXp1.out.2 V12.out HXp2.out.2 Tp2.out (Turn.trans (Turn.alloc wp2 (Obj.cells #[.int .i64 yp1.kind, .int .i64 yp1.index, .int .i64 yp1.type.kind, .slice Bp1 yp1.type.args.length ep1, .slice Ap1 yp1.args.length cp1] 34)) (Turn.grown (only_set5 _ _ (.int .i64 yp2.kind) (.int .i64 yp2.index) (.int .i64 yp2.type.kind) (.slice Bp2 yp2.type.args.length ep2) (.slice Ap2 yp2.args.length cp2)) (fun k e => by cases e; exact .inr rfl))) ((blk_beside (Blk.new wp2 34 #[.int .i64 yp1.kind, .int .i64 yp1.index, .int .i64 yp1.type.kind, .slice Bp1 yp1.type.args.length ep1, .slice Ap1 yp1.args.length cp1]) (KSLp2.out.1.alloc (Obj.cells #[.int .i64 yp1.kind, .int .i64 yp1.index, .int .i64 yp1.type.kind, .slice Bp1 yp1.type.args.length ep1, .slice Ap1 yp1.args.length cp1] 34)) (Nat.ne_of_gt KSLp2.out.1.lt) (.int .i64 yp2.kind) (.int .i64 yp2.index) (.int .i64 yp2.type.kind) (.slice Bp2 yp2.type.args.length ep2) (.slice Ap2 yp2.args.length cp2))) ((KSLp2.out.1.alloc (Obj.cells #[.int .i64 yp1.kind, .int .i64 yp1.index, .int .i64 yp1.type.kind, .slice Bp1 yp1.type.args.length ep1, .slice Ap1 yp1.args.length cp1] 34)).set5 (.int .i64 yp2.kind) (.int .i64 yp2.index) (.int .i64 yp2.type.kind) (.slice Bp2 yp2.type.args.length ep2) (.slice Ap2 yp2.args.length cp2)) (Tp2.out.size) (KSLp2.out.2) (.inr V12.out.size) (.inr (Nat.le_refl _)) (.inr (Nat.le_refl _)) (.inl ltLp2)))
        | (go_at_call 15
           have Pp2 := term_any gg (4 * 2 + S.nodes + 1) G S 2 _ _ wp1 (by simp) (by omega) (by omega) (by simp; omega) HS.out.1 nS (Ctx.turn HC5.out Tp1.out) (Typ.turn HS5.out Tp1.out) Kp1.out
           (with_reducible refine Pp2.mono ?_)
           rintro e wp2 ⟨yp2, vp2, rfl, mp2, tp2, kp2, up2⟩
           clear Pp2
           have Tp2 := Lib.hid (Tp1.out.trans (up2))
           have Up2 := Lib.hid (up2)
           obtain ⟨Bp2, ep2, Ap2, cp2, rfl, _⟩ := IsTm.form tp2
           have Kp2 := Lib.hid kp2
           obtain ⟨lp2, hlp2⟩ : ∃ lp2, lp2 = (wp1).heap.size := ⟨_, rfl⟩
           have V12 := Lib.hid (show Turn (· = gg) wp1 wp2 from (up2))
           have gp2 : W5.heap.size ≤ lp2 := by rw [hlp2]; exact (show W5.heap.size ≤ (wp1).heap.size from (Tp1.out).size)
           have szp2 : lp2 ≤ wp2.heap.size := by rw [hlp2]; exact up2.size
           have szm : wp1.heap.size ≤ lp2 := by rw [hlp2]; simp <;> omega
           have HXp2 := Lib.hid (And.intro mp2 (show IsTm (fun b => lp2 ≤ b ∧ b < wp2.heap.size) wp2 yp2 _ by rw [hlp2]; exact tp2))
           clear kp2 mp2 tp2 hlp2
           try (have KSLp2 := Lib.hid (And.intro (Turn.blk Up2.out KSLp1.out.1 (by have := KSLp1.out.2; omega)) KSLp1.out.2))
           try (have KSMp2 := Lib.hid (And.intro (Turn.blk Up2.out KSMp1.out.1 (by have := KSMp1.out.2; omega)) KSMp1.out.2))
           have Qp2 := Lib.hid (Turn.free (n := W5.heap.size - 1) Tp2.out)
           have Qp2L := Lib.hid (Turn.free (n := W5.heap.size - 1) (Tp2.out.trans (tAl gg _ (Obj.cells #[.int .i64 0, .int .i64 0, .int .i64 0, .slice none 0 0, .slice none 0 0] 34))))
           have Qp2LM := Lib.hid (Turn.free (n := W5.heap.size - 1) ((Tp2.out.trans (tAl gg _ (Obj.cells #[.int .i64 0, .int .i64 0, .int .i64 0, .slice none 0 0, .slice none 0 0] 34))).trans (tAl gg _ (Obj.cells #[.int .i64 0, .int .i64 0, .int .i64 0, .slice none 0 0, .slice none 0 0] 34))))
           have QZ1 := Lib.hid (Turn.free (n := W5.heap.size - 1) (Turn.trans Tp2.out (tAl gg _ (Obj.cells #[.int .i64 0, .int .i64 0, .int .i64 0, .slice none 0 0, .slice none 0 0] 34))))
           have QZ2 := Lib.hid (Turn.free (n := W5.heap.size - 1) (Turn.trans Tp2.out (tAl gg _ (Obj.cells #[.int .i64 yp1.kind, .int .i64 yp1.index, .int .i64 yp1.type.kind, .slice Bp1 yp1.type.args.length ep1, .slice Ap1 yp1.args.length cp1] 34))))
           have QZ3 := Lib.hid (Turn.free (n := W5.heap.size - 1) (Turn.trans Tp2.out (tAl gg _ (Obj.cells #[.int .i64 yp2.kind, .int .i64 yp2.index, .int .i64 yp2.type.kind, .slice Bp2 yp2.type.args.length ep2, .slice Ap2 yp2.args.length cp2] 34))))
           have QZ4 := Lib.hid (Turn.free (n := W5.heap.size - 1) (Turn.trans (Turn.trans Tp2.out (tAl gg _ (Obj.cells #[.int .i64 0, .int .i64 0, .int .i64 0, .slice none 0 0, .slice none 0 0] 34))) (tAl gg _ (Obj.cells #[.int .i64 0, .int .i64 0, .int .i64 0, .slice none 0 0, .slice none 0 0] 34))))
           have QZ5 := Lib.hid (Turn.free (n := W5.heap.size - 1) (Turn.trans (Turn.trans Tp2.out (tAl gg _ (Obj.cells #[.int .i64 yp1.kind, .int .i64 yp1.index, .int .i64 yp1.type.kind, .slice Bp1 yp1.type.args.length ep1, .slice Ap1 yp1.args.length cp1] 34))) (tAl gg _ (Obj.cells #[.int .i64 0, .int .i64 0, .int .i64 0, .slice none 0 0, .slice none 0 0] 34))))
           have QZ6 := Lib.hid (Turn.free (n := W5.heap.size - 1) (Turn.trans (Turn.trans Tp2.out (tAl gg _ (Obj.cells #[.int .i64 yp1.kind, .int .i64 yp1.index, .int .i64 yp1.type.kind, .slice Bp1 yp1.type.args.length ep1, .slice Ap1 yp1.args.length cp1] 34))) (tAl gg _ (Obj.cells #[.int .i64 yp2.kind, .int .i64 yp2.index, .int .i64 yp2.type.kind, .slice Bp2 yp2.type.args.length ep2, .slice Ap2 yp2.args.length cp2] 34))))
           have QZ7 := Lib.hid (Turn.free (n := W5.heap.size - 1) (Turn.trans (Turn.trans Tp2.out (tAl gg _ (Obj.cells #[.int .i64 0, .int .i64 0, .int .i64 0, .slice none 0 0, .slice none 0 0] 34))) (tAl gg _ (Obj.cells #[.int .i64 yp2.kind, .int .i64 yp2.index, .int .i64 yp2.type.kind, .slice Bp2 yp2.type.args.length ep2, .slice Ap2 yp2.args.length cp2] 34))))
           have QZ8 := Lib.hid (Turn.free (n := W5.heap.size - 1) (Turn.trans (Turn.trans Tp2.out (tAl gg _ (Obj.cells #[.int .i64 yp2.kind, .int .i64 yp2.index, .int .i64 yp2.type.kind, .slice Bp2 yp2.type.args.length ep2, .slice Ap2 yp2.args.length cp2] 34))) (tAl gg _ (Obj.cells #[.int .i64 0, .int .i64 0, .int .i64 0, .slice none 0 0, .slice none 0 0] 34))))
           have QZ9 := Lib.hid (Turn.free (n := W5.heap.size - 1) (Turn.trans (Turn.trans Tp2.out (tAl gg _ (Obj.cells #[.int .i64 yp2.kind, .int .i64 yp2.index, .int .i64 yp2.type.kind, .slice Bp2 yp2.type.args.length ep2, .slice Ap2 yp2.args.length cp2] 34))) (tAl gg _ (Obj.cells #[.int .i64 yp1.kind, .int .i64 yp1.index, .int .i64 yp1.type.kind, .slice Bp1 yp1.type.args.length ep1, .slice Ap1 yp1.args.length cp1] 34))))
           have QZ10 := Lib.hid (Turn.free (n := W5.heap.size - 1) (Turn.trans (Turn.trans Tp2.out (tAl gg _ (Obj.cells #[.int .i64 0, .int .i64 0, .int .i64 0, .slice none 0 0, .slice none 0 0] 34))) (tAl gg _ (Obj.cells #[.int .i64 yp1.kind, .int .i64 yp1.index, .int .i64 yp1.type.kind, .slice Bp1 yp1.type.args.length ep1, .slice Ap1 yp1.args.length cp1] 34))))
           have END1a := Lib.hid (two_end (g := gg) (W := W5) (P := Made G S 276 35) (Q := Made G S 276 35) (HXp1.out.1.mono (bdN3 S) (bd3O S)) (HXp2.out.1.mono (bdN2 S) (bdO2 S)) z_W5 gp1 gp2 HXp1.out.2 V12.out HXp2.out.2 Tp2.out (Turn.trans (Turn.alloc wp2 (Obj.cells #[.int .i64 yp1.kind, .int .i64 yp1.index, .int .i64 yp1.type.kind, .slice Bp1 yp1.type.args.length ep1, .slice Ap1 yp1.args.length cp1] 34)) (Turn.alloc _ (Obj.cells #[.int .i64 yp2.kind, .int .i64 yp2.index, .int .i64 yp2.type.kind, .slice Bp2 yp2.type.args.length ep2, .slice Ap2 yp2.args.length cp2] 34))) ((Blk.new wp2 34 #[.int .i64 yp1.kind, .int .i64 yp1.index, .int .i64 yp1.type.kind, .slice Bp1 yp1.type.args.length ep1, .slice Ap1 yp1.args.length cp1]).alloc (Obj.cells #[.int .i64 yp2.kind, .int .i64 yp2.index, .int .i64 yp2.type.kind, .slice Bp2 yp2.type.args.length ep2, .slice Ap2 yp2.args.length cp2] 34)) (blk_new1 wp2 (Obj.cells #[.int .i64 yp1.kind, .int .i64 yp1.index, .int .i64 yp1.type.kind, .slice Bp1 yp1.type.args.length ep1, .slice Ap1 yp1.args.length cp1] 34) #[.int .i64 yp2.kind, .int .i64 yp2.index, .int .i64 yp2.type.kind, .slice Bp2 yp2.type.args.length ep2, .slice Ap2 yp2.args.length cp2] 34) (Tp2.out.size) ((Nat.le_succ_of_le Tp2.out.size)) (.inr V12.out.size) (.inr (Nat.le_succ_of_le V12.out.size)) (.inr (Nat.le_refl _)) (.inr (Nat.le_succ _)))
           have END1b := Lib.hid (two_end (g := gg) (W := W5) (P := Made G S 276 35) (Q := Made G S 276 35) (HXp1.out.1.mono (bdN3 S) (bd3O S)) (HXp2.out.1.mono (bdN2 S) (bdO2 S)) z_W5 gp1 gp2 HXp1.out.2 V12.out HXp2.out.2 Tp2.out (Turn.trans (Turn.alloc wp2 (Obj.cells #[.int .i64 yp2.kind, .int .i64 yp2.index, .int .i64 yp2.type.kind, .slice Bp2 yp2.type.args.length ep2, .slice Ap2 yp2.args.length cp2] 34)) (Turn.alloc _ (Obj.cells #[.int .i64 yp1.kind, .int .i64 yp1.index, .int .i64 yp1.type.kind, .slice Bp1 yp1.type.args.length ep1, .slice Ap1 yp1.args.length cp1] 34))) (blk_new1 wp2 (Obj.cells #[.int .i64 yp2.kind, .int .i64 yp2.index, .int .i64 yp2.type.kind, .slice Bp2 yp2.type.args.length ep2, .slice Ap2 yp2.args.length cp2] 34) #[.int .i64 yp1.kind, .int .i64 yp1.index, .int .i64 yp1.type.kind, .slice Bp1 yp1.type.args.length ep1, .slice Ap1 yp1.args.length cp1] 34) ((Blk.new wp2 34 #[.int .i64 yp2.kind, .int .i64 yp2.index, .int .i64 yp2.type.kind, .slice Bp2 yp2.type.args.length ep2, .slice Ap2 yp2.args.length cp2]).alloc (Obj.cells #[.int .i64 yp1.kind, .int .i64 yp1.index, .int .i64 yp1.type.kind, .slice Bp1 yp1.type.args.length ep1, .slice Ap1 yp1.args.length cp1] 34)) ((Nat.le_succ_of_le Tp2.out.size)) (Tp2.out.size) (.inr (Nat.le_succ_of_le V12.out.size)) (.inr V12.out.size) (.inr (Nat.le_succ _)) (.inr (Nat.le_refl _))))
        | (go_at_call 15
           have Pp1 := term_any gg (4 * 3 + S.nodes + 1) G S 3 _ _ ((W5.alloc (Obj.cells #[.int .i64 0, .int .i64 0, .int .i64 0, .slice none 0 0, .slice none 0 0] 34)).alloc (Obj.cells #[.int .i64 0, .int .i64 0, .int .i64 0, .slice none 0 0, .slice none 0 0] 34)).drew (by simp) (by omega) (by omega) (by simp; omega) HS.out.1 nS (Ctx.turn HC5.out (((tAl gg _ (Obj.cells #[.int .i64 0, .int .i64 0, .int .i64 0, .slice none 0 0, .slice none 0 0] 34)).trans (tAl gg _ (Obj.cells #[.int .i64 0, .int .i64 0, .int .i64 0, .slice none 0 0, .slice none 0 0] 34))).trans (tDr gg _))) (Typ.turn HS5.out (((tAl gg _ (Obj.cells #[.int .i64 0, .int .i64 0, .int .i64 0, .slice none 0 0, .slice none 0 0] 34)).trans (tAl gg _ (Obj.cells #[.int .i64 0, .int .i64 0, .int .i64 0, .slice none 0 0, .slice none 0 0] 34))).trans (tDr gg _))) (Deck.drewd (Deck.box (Deck.box D_W5.out (Obj.cells #[.int .i64 0, .int .i64 0, .int .i64 0, .slice none 0 0, .slice none 0 0] 34)) (Obj.cells #[.int .i64 0, .int .i64 0, .int .i64 0, .slice none 0 0, .slice none 0 0] 34)))
           (with_reducible refine Pp1.mono ?_)
           rintro e wp1 ⟨yp1, vp1, rfl, mp1, tp1, kp1, up1⟩
           clear Pp1
           have Tp1 := Lib.hid ((((tAl gg _ (Obj.cells #[.int .i64 0, .int .i64 0, .int .i64 0, .slice none 0 0, .slice none 0 0] 34)).trans (tAl gg _ (Obj.cells #[.int .i64 0, .int .i64 0, .int .i64 0, .slice none 0 0, .slice none 0 0] 34))).trans (tDr gg _)).trans (up1))
           have Up1 := Lib.hid ((((tAl gg _ (Obj.cells #[.int .i64 0, .int .i64 0, .int .i64 0, .slice none 0 0, .slice none 0 0] 34)).trans (tAl gg _ (Obj.cells #[.int .i64 0, .int .i64 0, .int .i64 0, .slice none 0 0, .slice none 0 0] 34))).trans (tDr gg _)).trans (up1))
           obtain ⟨Bp1, ep1, Ap1, cp1, rfl, _⟩ := IsTm.form tp1
           have Kp1 := Lib.hid kp1
           obtain ⟨lp1, hlp1⟩ : ∃ lp1, lp1 = (((W5.alloc (Obj.cells #[.int .i64 0, .int .i64 0, .int .i64 0, .slice none 0 0, .slice none 0 0] 34)).alloc (Obj.cells #[.int .i64 0, .int .i64 0, .int .i64 0, .slice none 0 0, .slice none 0 0] 34)).drew).heap.size := ⟨_, rfl⟩
           have gp1 : W5.heap.size ≤ lp1 := by rw [hlp1]; exact (show W5.heap.size ≤ (((W5.alloc (Obj.cells #[.int .i64 0, .int .i64 0, .int .i64 0, .slice none 0 0, .slice none 0 0] 34)).alloc (Obj.cells #[.int .i64 0, .int .i64 0, .int .i64 0, .slice none 0 0, .slice none 0 0] 34)).drew).heap.size from ((((tAl gg _ (Obj.cells #[.int .i64 0, .int .i64 0, .int .i64 0, .slice none 0 0, .slice none 0 0] 34)).trans (tAl gg _ (Obj.cells #[.int .i64 0, .int .i64 0, .int .i64 0, .slice none 0 0, .slice none 0 0] 34))).trans (tDr gg _))).size)
           have szp1 : lp1 ≤ wp1.heap.size := by rw [hlp1]; exact up1.size
           have ltLp1 : W5.heap.size < lp1 := by rw [hlp1]; simp <;> omega
           have ltMp1 : W5.heap.size + 1 < lp1 := by rw [hlp1]; simp <;> omega
           have HXp1 := Lib.hid (And.intro mp1 (show IsTm (fun b => lp1 ≤ b ∧ b < wp1.heap.size) wp1 yp1 _ by rw [hlp1]; exact tp1))
           clear kp1 mp1 tp1 hlp1
           have KSLp1 := Lib.hid (And.intro (Turn.blk ((((tAl gg _ (Obj.cells #[.int .i64 0, .int .i64 0, .int .i64 0, .slice none 0 0, .slice none 0 0] 34)).trans (tDr gg _)).trans (up1))) (Blk.new W5 34 #[.int .i64 0, .int .i64 0, .int .i64 0, .slice none 0 0, .slice none 0 0]) (by have := (Nat.le_refl W5.heap.size); omega)) (show W5.heap.size ≤ W5.heap.size by have := (Nat.le_refl W5.heap.size); omega))
           have KSMp1 := Lib.hid (And.intro (Turn.blk (((tDr gg _).trans (up1))) (blk_new1 W5 (Obj.cells #[.int .i64 0, .int .i64 0, .int .i64 0, .slice none 0 0, .slice none 0 0] 34) #[.int .i64 0, .int .i64 0, .int .i64 0, .slice none 0 0, .slice none 0 0] 34) (by have := (Nat.le_refl W5.heap.size); omega)) (show W5.heap.size ≤ W5.heap.size + 1 by have := (Nat.le_refl W5.heap.size); omega))
           have Qp1 := Lib.hid (Turn.free (n := W5.heap.size - 1) Tp1.out)
           have Qp1L := Lib.hid (Turn.free (n := W5.heap.size - 1) (Tp1.out.trans (tAl gg _ (Obj.cells #[.int .i64 0, .int .i64 0, .int .i64 0, .slice none 0 0, .slice none 0 0] 34))))
           have Qp1LM := Lib.hid (Turn.free (n := W5.heap.size - 1) ((Tp1.out.trans (tAl gg _ (Obj.cells #[.int .i64 0, .int .i64 0, .int .i64 0, .slice none 0 0, .slice none 0 0] 34))).trans (tAl gg _ (Obj.cells #[.int .i64 0, .int .i64 0, .int .i64 0, .slice none 0 0, .slice none 0 0] 34)))))
        | (go_at_call 15
           have Pp1 := term_any gg (4 * 3 + S.nodes + 1) G S 3 _ _ (W5.alloc (Obj.cells #[.int .i64 0, .int .i64 0, .int .i64 0, .slice none 0 0, .slice none 0 0] 34)).drew (by simp) (by omega) (by omega) (by simp; omega) HS.out.1 nS (Ctx.turn HC5.out ((tAl gg _ (Obj.cells #[.int .i64 0, .int .i64 0, .int .i64 0, .slice none 0 0, .slice none 0 0] 34)).trans (tDr gg _))) (Typ.turn HS5.out ((tAl gg _ (Obj.cells #[.int .i64 0, .int .i64 0, .int .i64 0, .slice none 0 0, .slice none 0 0] 34)).trans (tDr gg _))) (Deck.drewd (Deck.box D_W5.out (Obj.cells #[.int .i64 0, .int .i64 0, .int .i64 0, .slice none 0 0, .slice none 0 0] 34)))
           (with_reducible refine Pp1.mono ?_)
           rintro e wp1 ⟨yp1, vp1, rfl, mp1, tp1, kp1, up1⟩
           clear Pp1
           have Tp1 := Lib.hid (((tAl gg _ (Obj.cells #[.int .i64 0, .int .i64 0, .int .i64 0, .slice none 0 0, .slice none 0 0] 34)).trans (tDr gg _)).trans (up1))
           have Up1 := Lib.hid (((tAl gg _ (Obj.cells #[.int .i64 0, .int .i64 0, .int .i64 0, .slice none 0 0, .slice none 0 0] 34)).trans (tDr gg _)).trans (up1))
           obtain ⟨Bp1, ep1, Ap1, cp1, rfl, _⟩ := IsTm.form tp1
           have Kp1 := Lib.hid kp1
           obtain ⟨lp1, hlp1⟩ : ∃ lp1, lp1 = ((W5.alloc (Obj.cells #[.int .i64 0, .int .i64 0, .int .i64 0, .slice none 0 0, .slice none 0 0] 34)).drew).heap.size := ⟨_, rfl⟩
           have gp1 : W5.heap.size ≤ lp1 := by rw [hlp1]; exact (show W5.heap.size ≤ ((W5.alloc (Obj.cells #[.int .i64 0, .int .i64 0, .int .i64 0, .slice none 0 0, .slice none 0 0] 34)).drew).heap.size from (((tAl gg _ (Obj.cells #[.int .i64 0, .int .i64 0, .int .i64 0, .slice none 0 0, .slice none 0 0] 34)).trans (tDr gg _))).size)
           have szp1 : lp1 ≤ wp1.heap.size := by rw [hlp1]; exact up1.size
           have ltLp1 : W5.heap.size < lp1 := by rw [hlp1]; simp <;> omega
           have HXp1 := Lib.hid (And.intro mp1 (show IsTm (fun b => lp1 ≤ b ∧ b < wp1.heap.size) wp1 yp1 _ by rw [hlp1]; exact tp1))
           clear kp1 mp1 tp1 hlp1
           have KSLp1 := Lib.hid (And.intro (Turn.blk (((tDr gg _).trans (up1))) (Blk.new W5 34 #[.int .i64 0, .int .i64 0, .int .i64 0, .slice none 0 0, .slice none 0 0]) (by have := (Nat.le_refl W5.heap.size); omega)) (show W5.heap.size ≤ W5.heap.size by have := (Nat.le_refl W5.heap.size); omega))
           have Qp1 := Lib.hid (Turn.free (n := W5.heap.size - 1) Tp1.out)
           have Qp1L := Lib.hid (Turn.free (n := W5.heap.size - 1) (Tp1.out.trans (tAl gg _ (Obj.cells #[.int .i64 0, .int .i64 0, .int .i64 0, .slice none 0 0, .slice none 0 0] 34))))
           have Qp1LM := Lib.hid (Turn.free (n := W5.heap.size - 1) ((Tp1.out.trans (tAl gg _ (Obj.cells #[.int .i64 0, .int .i64 0, .int .i64 0, .slice none 0 0, .slice none 0 0] 34))).trans (tAl gg _ (Obj.cells #[.int .i64 0, .int .i64 0, .int .i64 0, .slice none 0 0, .slice none 0 0] 34)))))
        | (go_at_call 15
           have Pp1 := term_any gg (4 * 3 + S.nodes + 1) G S 3 _ _ W5.drew (by simp) (by omega) (by omega) (by simp; omega) HS.out.1 nS (Ctx.turn HC5.out (tDr gg _)) (Typ.turn HS5.out (tDr gg _)) (Deck.drewd D_W5.out)
           (with_reducible refine Pp1.mono ?_)
           rintro e wp1 ⟨yp1, vp1, rfl, mp1, tp1, kp1, up1⟩
           clear Pp1
           have Tp1 := Lib.hid ((tDr gg _).trans (up1))
           have Up1 := Lib.hid ((tDr gg _).trans (up1))
           obtain ⟨Bp1, ep1, Ap1, cp1, rfl, _⟩ := IsTm.form tp1
           have Kp1 := Lib.hid kp1
           obtain ⟨lp1, hlp1⟩ : ∃ lp1, lp1 = (W5.drew).heap.size := ⟨_, rfl⟩
           have gp1 : W5.heap.size ≤ lp1 := by rw [hlp1]; exact (show W5.heap.size ≤ (W5.drew).heap.size from ((tDr gg _)).size)
           have szp1 : lp1 ≤ wp1.heap.size := by rw [hlp1]; exact up1.size
           have HXp1 := Lib.hid (And.intro mp1 (show IsTm (fun b => lp1 ≤ b ∧ b < wp1.heap.size) wp1 yp1 _ by rw [hlp1]; exact tp1))
           clear kp1 mp1 tp1 hlp1
           have Qp1 := Lib.hid (Turn.free (n := W5.heap.size - 1) Tp1.out)
           have Qp1L := Lib.hid (Turn.free (n := W5.heap.size - 1) (Tp1.out.trans (tAl gg _ (Obj.cells #[.int .i64 0, .int .i64 0, .int .i64 0, .slice none 0 0, .slice none 0 0] 34))))
           have Qp1LM := Lib.hid (Turn.free (n := W5.heap.size - 1) ((Tp1.out.trans (tAl gg _ (Obj.cells #[.int .i64 0, .int .i64 0, .int .i64 0, .slice none 0 0, .slice none 0 0] 34))).trans (tAl gg _ (Obj.cells #[.int .i64 0, .int .i64 0, .int .i64 0, .slice none 0 0, .slice none 0 0] 34))))))
    all_goals (go_wp2_with fail; go_meet; first | with_reducible exact END1a.out | with_reducible exact END1b.out | with_reducible exact END3a.out | with_reducible exact END3b.out | with_reducible exact END4a.out | with_reducible exact END4b.out | with_reducible exact END7a.out | with_reducible exact END7b.out | exact END5a.out | exact END5b.out | (trace_state; sorry))
  case rest =>
    obtain ⟨qa, qb, X, Y, B5, A5, B6, A6, e5, c5, e6, c6, rfl, rfl, mX, mY, ha, hb, ka, kb, tX, tY, ht⟩ := hcut
    obtain ⟨w6, hw6⟩ : ∃ x, x = wc := ⟨_, rfl⟩
    subst hw6
    have hlX : X.low 1000 = true := low_mono (by have := mX.size; simp; omega) X (typ_low X G mX.ok mX.typ)
    have hlY : Y.low 1000 = true := low_mono (by have := mY.size; simp; omega) Y (typ_low Y G mY.ok mY.typ)
    have hsX := mX.size
    have hsY := mY.size
    have HX := Lib.hid (And.intro mX.ok (And.intro hlX tX))
    have HY := Lib.hid (And.intro mY.ok (And.intro hlY tY))
    have hbX := ok_bulk mX.ok
    have hbY := ok_bulk mY.ok
    have B6' := Lib.hid (b_W5.trans (ht.toBelow (fun k hk e => by omega) b_W5.size))
    have hz6 := ht.size
    have hz5 : gg < W5.heap.size := z_W5
    have KA := Lib.hid ka
    have KB := Lib.hid kb
    have hza := ka.lt
    have hzb := kb.lt
    have T6 := Lib.hid (HTab.out.after B6'.out)
    clear hlX hlY tX tY ht mX mY ka kb b_W5 m_w3_W5 m_w4_W5 m_W5_W5
    obtain ⟨r0, r1, r2, r3, r4, _, _, _, _, _⟩ := KA.out.facts5
    go_upto_region 10 with fail
    obtain ⟨b7, z7, k7⟩ := new_blk (Below.refl w6.heap.size w6) (Nat.le_refl _) #[.int .i64 X.kind, .int .i64 X.index, .int .i64 X.type.kind, .slice B5 X.type.args.length e5, .slice A5 X.args.length c5] 34
    generalize w6.alloc (Obj.cells #[.int .i64 X.kind, .int .i64 X.index, .int .i64 X.type.kind, .slice B5 X.type.args.length e5, .slice A5 X.args.length c5] 34) = W7 at b7 z7 k7 ⊢
    have hz7 : w6.heap.size < W7.heap.size := by omega
    have B7 := Lib.hid b7
    have T7 := Lib.hid (T6.out.after b7)
    have HL := Lib.hid (show ZAt W5.heap.size w6.heap.size 0 X W7 W7 from ⟨X, B5, A5, e5, c5, 0, by omega, rfl, HX.out.1, by omega, HX.out.2.1, k7, IsTm.keep (fun b h => ⟨⟨h.1, by have := h.2; omega⟩, by have := h.2; omega⟩) (fun p hp => b7.cell hp.2) _ HX.out.2.2, Turn.refl _ _⟩)
    obtain ⟨n, hn⟩ : ∃ n : Nat, (n : Int) = u % 6 := ⟨(u % 6).toNat, by omega⟩
    have hn5 : n ≤ 5 := by omega
    clear r0 r1 r2 r3 r4 b7 k7 z7
    go_upto_region 11 with fail
    have BN := Lib.hid fun (w' : World) (h : Turn (· = w6.heap.size) W7 w') => (B6'.out.trans ((B7.out.trans (h.toBelow (fun k hk e => by omega) (by omega) : Below w6.heap.size W7 w')).mono B6'.out.size) : Below w.heap.size w w')
    have HN := Lib.hid hn
    clear hn
    rw [← HN.out]
    go_wp2_with fail
    go_loopw [40] (fun ix wr => ∃ j : Nat, j ≤ n ∧ ix = .int .i64 j ∧ ZAt W5.heap.size w6.heap.size j X W7 wr) (fun ix _ => n - (intOf ix).toNat)
    case atStart => exact ⟨0, by omega, rfl, HL.out⟩
    case round =>
      obtain ⟨j, hj, rfl, Z, Bz, Az, ez, cz, m, hm, hit, zok, zs, zl, kz, tz, ht⟩ := hrel
      have HZ := Lib.hid (And.intro hit (And.intro zok zl))
      have KZ := Lib.hid kz
      have TZ := Lib.hid tz
      have HT := Lib.hid ht
      have hzr := ht.size
      have hbz := ok_bulk zok
      have TR := Lib.hid (T7.out.turn ht (by have := HTab.out.lt; omega))
      clear hit zok zl kz tz ht
      by_cases hjn : j < n
      · have hjd : decide ((j : Int) < (n : Int)) = true := decide_eq_true (by omega)
        obtain ⟨r0, r1, r2, r3, r4, _, _, _, _, _⟩ := KZ.out.facts5
        go_wp2_with fail
        refine (stepTop_any Z _ (fun b => (W5.heap.size ≤ b ∧ b ≠ w6.heap.size) ∧ b < wr.heap.size) wr (by omega) (errT_zero.2 ⟨HZ.out.2.1, zs⟩) (low_mono (by omega) _ HZ.out.2.2) TR.out (fun b h => h.2) TZ.out).mono ?_
        rintro e w8 ⟨b8, h8⟩
        have hz8 := b8.size
        have B8 := Lib.hid b8
        have KZ8 := Lib.hid (KZ.out.below b8 KZ.out.lt)
        have T8 := Lib.hid (HT.out.trans (Turn.call b8))
        clear b8 r0 r1 r2 r3 r4
        obtain ⟨V, v', sb, er, rfl, hcase⟩ : ∃ (V : Tm) (v' : Value) (sb : Bool) (er : Int), e = .returned (.tuple #[v', .bool sb, .int .i64 er]) ∧ ((er = 4 ∧ v' = .agg #[.int .i64 V.kind, .int .i64 V.index, .int .i64 V.type.kind, .slice none V.type.args.length 0, .slice none V.args.length 0]) ∨ (er = 0 ∧ IsTm (fun b => (((W5.heap.size ≤ b ∧ b ≠ w6.heap.size) ∧ b < wr.heap.size) ∨ wr.heap.size ≤ b) ∧ b < w8.heap.size) w8 V v' ∧ V.ok = true ∧ V.size ≤ 4096 ∧ V.low (1000 + 4096 * (j + 1 : Nat)) = true ∧ ∃ k, k ≤ j + 1 ∧ X.iter k = some V)) := by
          rcases h8 with ⟨V, v', rfl, tv, hnx, hvs⟩ | ⟨v', rfl, tv, hnx⟩ | ⟨rfl, _⟩
          · have hd := next_deep Z HZ.out.2.1 hnx
            exact ⟨V, v', true, 0, rfl, .inr ⟨rfl, tv, hd.ok HZ.out.2.1, hvs, low_mono (by omega) _ (hd.low (by omega) HZ.out.2.2), m + 1, by omega, by rw [iter_snoc, HZ.out.1, Option.bind_some, hnx]⟩⟩
          · exact ⟨Z, v', false, 0, rfl, .inr ⟨rfl, tv, HZ.out.2.1, zs, low_mono (by omega) _ HZ.out.2.2, m, by omega, HZ.out.1⟩⟩
          · exact ⟨.void, _, false, 4, rfl, .inl ⟨rfl, rfl⟩⟩
        obtain ⟨Bv, dv, Av, cv, rfl⟩ : ∃ Bv dv Av cv, v' = .agg #[.int .i64 V.kind, .int .i64 V.index, .int .i64 V.type.kind, .slice Bv V.type.args.length dv, .slice Av V.args.length cv] := by
          rcases hcase with ⟨_, h⟩ | ⟨_, h, _⟩
          · exact ⟨_, _, _, _, h⟩
          · obtain ⟨Bv, dv, Av, cv, h, _⟩ := IsTm.form h
            exact ⟨_, _, _, _, h⟩
        go_upto_region 13 with fail
        obtain ⟨b9, z9, k9⟩ := new_blk (Below.refl w8.heap.size w8) (Nat.le_refl _) #[.int .i64 V.kind, .int .i64 V.index, .int .i64 V.type.kind, .slice Bv V.type.args.length dv, .slice Av V.args.length cv] 34
        generalize w8.alloc (Obj.cells #[.int .i64 V.kind, .int .i64 V.index, .int .i64 V.type.kind, .slice Bv V.type.args.length dv, .slice Av V.args.length cv] 34) = W9 at b9 z9 k9 ⊢
        have hz9 := b9.size
        have B9 := Lib.hid b9
        have K9 := Lib.hid k9
        have KZ9 := Lib.hid (KZ8.out.below b9 KZ8.out.lt)
        have T9 := Lib.hid (T8.out.trans (Turn.call b9))
        obtain ⟨_, _, _, _, _, g0, g1, g2, g3, g4⟩ := KZ9.out.facts5
        obtain ⟨r0, r1, r2, r3, r4, _, _, _, _, _⟩ := K9.out.facts5
        clear b9 k9
        rcases hcase with ⟨rfl, _⟩ | ⟨rfl, hV⟩
        · go_wp2_with fail
          go_ret
          exact ⟨rfl, (BN.out W9 T9.out)⟩
        · have HV := Lib.hid hV
          have hg5 := only_set5 W9 w6.heap.size (.int .i64 V.kind) (.int .i64 V.index) (.int .i64 V.type.kind) (.slice Bv V.type.args.length dv) (.slice Av V.args.length cv)
          have HUA := Lib.hid (show ZAt W5.heap.size w6.heap.size (j + 1) X W7 (((((W9.setCell ⟨w6.heap.size, 0, none⟩ (.int .i64 V.kind)).setCell ⟨w6.heap.size, 1, none⟩ (.int .i64 V.index)).setCell ⟨w6.heap.size, 2, none⟩ (.int .i64 V.type.kind)).setCell ⟨w6.heap.size, 3, none⟩ (.slice Bv V.type.args.length dv)).setCell ⟨w6.heap.size, 4, none⟩ (.slice Av V.args.length cv)) from by
            obtain ⟨h1, h2, h3, h4, k, h5, h6⟩ := HV.out
            exact ⟨V, Bv, Av, dv, cv, k, h5, h6, h2, h3, h4, KZ9.out.set5 _ _ _ _ _,
              IsTm.keep (fun b h => ⟨h.1.elim (fun h => h.1) (fun h => ⟨by omega, by omega⟩), by have := h.2; have := hg5.size; omega⟩) (fun p hp => (World.cell?_of_block (hg5.block p.block (by have := hp.2; omega) (fun e => by
                have e' : p.block = w6.heap.size := by simpa using e
                exact hp.1.elim (fun h => h.1.2 e') (fun h => by omega)))).trans (B9.out.cell hp.2)) _ h1,
              T9.out.trans (Turn.grown hg5 fun k e => by cases e; rfl)⟩)
          clear hV hg5
          go_wp2_with fail
          go_roundw
          case rel => exact ⟨j + 1, by omega, by go_num, HUA.out⟩
          case measure => simp [intOf]; omega
      · have hjd : decide ((j : Int) < (n : Int)) = false := decide_eq_false (by omega)
        have KAr := Lib.hid ((KA.out.below B7.out KA.out.lt).turn HT.out (by omega))
        have KBr := Lib.hid ((KB.out.below B7.out KB.out.lt).turn HT.out (by omega))
        have XR := Lib.hid (show IsTm (· < wr.heap.size) wr X _ from IsTm.keep (fun b h => by have := h.2; omega) (fun p hp => (World.cell?_of_block (HT.out.block p.block (by have := hp.2; omega) (by have := hp.2; omega))).trans (B7.out.cell hp.2)) _ HX.out.2.2)
        have YR := Lib.hid (show IsTm (· < wr.heap.size) wr Y _ from IsTm.keep (fun b h => by have := h.2; omega) (fun p hp => (World.cell?_of_block (HT.out.block p.block (by have := hp.2; omega) (by have := hp.2; omega))).trans (B7.out.cell hp.2)) _ HY.out.2.2)
        have ZR := Lib.hid (show IsTm (· < wr.heap.size) wr Z _ from IsTm.keep (fun b h => h.2) (fun _ _ => rfl) _ TZ.out)
        have MX := Lib.hid fun (lim : Nat) (w' : World) (h : Below wr.heap.size wr w') (hl : lim ≤ 1000) => match_any X X _ _ lim w' (errT_zero.2 ⟨HX.out.1, by omega⟩) (errT_zero.2 ⟨HX.out.1, by omega⟩) (low_mono (by omega) _ HX.out.2.1) (low_mono (by omega) _ HX.out.2.1) (by omega) (by omega) hl (TR.out.after h) (IsTm.keep (S' := (· < w'.heap.size)) (fun b hb => Nat.lt_of_lt_of_le hb h.size) (fun p hp => h.cell hp) _ XR.out) (IsTm.keep (S' := (· < w'.heap.size)) (fun b hb => Nat.lt_of_lt_of_le hb h.size) (fun p hp => h.cell hp) _ XR.out)
        have MXY := Lib.hid fun (w' : World) (h : Below wr.heap.size wr w') => match_any X Y _ _ 300 w' (errT_zero.2 ⟨HX.out.1, by omega⟩) (errT_zero.2 ⟨HY.out.1, by omega⟩) (low_mono (by omega) _ HX.out.2.1) (low_mono (by omega) _ HY.out.2.1) (by omega) (by omega) (by omega) (TR.out.after h) (IsTm.keep (S' := (· < w'.heap.size)) (fun b hb => Nat.lt_of_lt_of_le hb h.size) (fun p hp => h.cell hp) _ XR.out) (IsTm.keep (S' := (· < w'.heap.size)) (fun b hb => Nat.lt_of_lt_of_le hb h.size) (fun p hp => h.cell hp) _ YR.out)
        have MYX := Lib.hid fun (w' : World) (h : Below wr.heap.size wr w') => match_any Y X _ _ 300 w' (errT_zero.2 ⟨HY.out.1, by omega⟩) (errT_zero.2 ⟨HX.out.1, by omega⟩) (low_mono (by omega) _ HY.out.2.1) (low_mono (by omega) _ HX.out.2.1) (by omega) (by omega) (by omega) (TR.out.after h) (IsTm.keep (S' := (· < w'.heap.size)) (fun b hb => Nat.lt_of_lt_of_le hb h.size) (fun p hp => h.cell hp) _ YR.out) (IsTm.keep (S' := (· < w'.heap.size)) (fun b hb => Nat.lt_of_lt_of_le hb h.size) (fun p hp => h.cell hp) _ XR.out)
        have MXZ := Lib.hid fun (w' : World) (h : Below wr.heap.size wr w') => match_any X Z _ _ 300 w' (errT_zero.2 ⟨HX.out.1, by omega⟩) (errT_zero.2 ⟨HZ.out.2.1, zs⟩) (low_mono (by omega) _ HX.out.2.1) (low_mono (by omega) _ HZ.out.2.2) (by omega) (by omega) (by omega) (TR.out.after h) (IsTm.keep (S' := (· < w'.heap.size)) (fun b hb => Nat.lt_of_lt_of_le hb h.size) (fun p hp => h.cell hp) _ XR.out) (IsTm.keep (S' := (· < w'.heap.size)) (fun b hb => Nat.lt_of_lt_of_le hb h.size) (fun p hp => h.cell hp) _ ZR.out)
        have HSK := Lib.hid fun (w' : World) (h : Below wr.heap.size wr w') => And.intro (KAr.out.below h KAr.out.lt).facts5.1 (And.intro (KAr.out.below h KAr.out.lt).facts5.2.1 (And.intro (KAr.out.below h KAr.out.lt).facts5.2.2.1 (And.intro (KAr.out.below h KAr.out.lt).facts5.2.2.2.1 (And.intro (KAr.out.below h KAr.out.lt).facts5.2.2.2.2.1 (And.intro (KBr.out.below h KBr.out.lt).facts5.1 (And.intro (KBr.out.below h KBr.out.lt).facts5.2.1 (And.intro (KBr.out.below h KBr.out.lt).facts5.2.2.1 (And.intro (KBr.out.below h KBr.out.lt).facts5.2.2.2.1 ((KBr.out.below h KBr.out.lt).facts5.2.2.2.2.1)))))))))
        obtain ⟨q0, q1, q2, q3, q4, q5, q6, q7, q8, q9⟩ := HSK.out wr (Below.refl _ _)
        have QD := Lib.hid (show Below wr.heap.size wr wr.drew from (Below.refl _ _).drew)
        go_upto_region 17 with fail
        go_region_held3 (fun w' => w'.cell? ⟨qa, 0, none⟩ = some (.int .i64 X.kind) ∧ w'.cell? ⟨qa, 1, none⟩ = some (.int .i64 X.index) ∧ w'.cell? ⟨qa, 2, none⟩ = some (.int .i64 X.type.kind) ∧ w'.cell? ⟨qa, 3, none⟩ = some (.slice B5 X.type.args.length e5) ∧ w'.cell? ⟨qa, 4, none⟩ = some (.slice A5 X.args.length c5) ∧ w'.cell? ⟨qb, 0, none⟩ = some (.int .i64 Y.kind) ∧ w'.cell? ⟨qb, 1, none⟩ = some (.int .i64 Y.index) ∧ w'.cell? ⟨qb, 2, none⟩ = some (.int .i64 Y.type.kind) ∧ w'.cell? ⟨qb, 3, none⟩ = some (.slice B6 Y.type.args.length e6) ∧ w'.cell? ⟨qb, 4, none⟩ = some (.slice A6 Y.args.length c6))
          (first | with_reducible exact HSK.out _ QD.out | with_reducible exact HSK.out _ B10.out | with_reducible exact HSK.out _ B11.out)
          (first
            | (go_at_call 17
               have P11 : Calls Tryd.prog 17 #[_, _, .int .i64 300] w10 _ := MYX.out w10 B10.out
               (with_reducible refine P11.mono ?_)
               rintro e w11 ⟨eb, rfl, mb, b11⟩
               clear P11
               have B11 := Lib.hid (show Below wr.heap.size wr w11 from B10.out.trans (b11.mono B10.out.size)))
            | (go_at_call 17
               have P10 : Calls Tryd.prog 17 #[_, _, .int .i64 300] wr.drew _ := MXY.out wr.drew QD.out
               (with_reducible refine P10.mono ?_)
               rintro e w10 ⟨ea, rfl, ma, b10⟩
               clear P10
               have B10 := Lib.hid (show Below wr.heap.size wr w10 from QD.out.trans b10)))
        have hz11 := B11.out.size
        have hab : ea = 0 ↔ eb = 0 := ⟨fun h => ma.symm mb h, fun h => mb.symm ma h⟩
        have HAB := Lib.hid hab
        clear ma mb b10 b11 hab q0 q1 q2 q3 q4 q5 q6 q7 q8 q9
        obtain ⟨q0, q1, q2, q3, q4, _⟩ := HSK.out w11 B11.out
        obtain ⟨r0, r1, r2, r3, r4, _, _, _, _, _⟩ := (KZ.out.below B11.out KZ.out.lt).facts5
        go_wp2_with fail
        refine (MXZ.out w11 B11.out).mono ?_
        rintro e w12 ⟨ec, rfl, mc, b12⟩
        have B12 := Lib.hid (show Below wr.heap.size wr w12 from B11.out.trans (b12.mono hz11))
        have hc3 := mc.steps HZ.out.1
        have BW := Lib.hid (BN.out wr HT.out)
        clear mc b12 q0 q1 q2 q3 q4 r0 r1 r2 r3 r4
        by_cases h0 : ea = 0
        · obtain rfl := HAB.out.1 h0
          subst h0
          obtain ⟨q0, q1, q2, q3, q4, _⟩ := HSK.out w12 B12.out
          rcases hc3 with rfl | rfl | rfl
          all_goals
            go_wp2_with fail
            refine (MX.out 0 w12 B12.out (by omega)).mono ?_
            rintro e w13 ⟨ed, rfl, md, b13⟩
            obtain rfl := md.refl
            have B13 := Lib.hid (BW.out.trans ((B12.out.trans (b13.mono B12.out.size)).mono BW.out.size))
            clear md b13 q0 q1 q2 q3 q4
            go_wp2_with fail
            go_ret
            exact ⟨rfl, B13.out⟩
        · have h1 : ¬ eb = 0 := fun h => h0 (HAB.out.2 h)
          have e0 : (ea == 0) = false := by simpa using h0
          have e1 : (eb == 0) = false := by simpa using h1
          obtain ⟨q0, q1, q2, q3, q4, _⟩ := HSK.out w12 B12.out
          clear h0 h1
          rcases hc3 with rfl | rfl | rfl
          all_goals
            go_wp2_with fail
            refine (MX.out 0 w12 B12.out (by omega)).mono ?_
            rintro e w13 ⟨ed, rfl, md, b13⟩
            obtain rfl := md.refl
            have B13 := Lib.hid (BW.out.trans ((B12.out.trans (b13.mono B12.out.size)).mono BW.out.size))
            clear md b13 q0 q1 q2 q3 q4
            go_wp2_with fail
            go_ret
            exact ⟨rfl, B13.out⟩
end Go.Proofs.YtdhidofmojaheaaDoor
