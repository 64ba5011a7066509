/- mk.Term: a term of a type in a context. -/
import Derived.Test.YtieafbmabnohhaaDoorMkTermS
import Derived.Test.YtieafbmabnohhaaDoorMkTermR
namespace Go.Proofs.YtieafbmabnohhaaDoor
open Go.RowKit

set_option maxRecDepth 1000000 in
set_option maxHeartbeats 4000000 in
theorem term_step (g M : Nat) (ih : IHT g M) (G : List Ty) (t : Ty) (d : Int) (s v : Value) (w : World) (hm : 4 * d.toNat + t.nodes ≤ M) (hd5 : d ≤ 5) (hdn : (t.nodes : Int) - 20 ≤ d) (hlen : G.length + 4 * d.toNat + t.nodes ≤ 60) (hok : t.ok = true) (hn : t.nodes ≤ 3)
    (hc : Ctx g w G s) (ht : Typ g w t v) (hd : Deck w g) : Calls Tryd.prog 20 #[.pointer (some ⟨g, 0, none⟩), s, v, .int .i64 d] w (TermR g G t (bdN d.toNat t) (bdO d.toNat t) w) := by
  obtain ⟨A, c, rfl⟩ := hc.sl.form
  obtain ⟨B, e0, rfl⟩ := IsTy.form ht
  have hBX := boxes_made hd.lt t B e0
  have IH := Lib.hid ih
  have HC0 := Lib.hid hc
  have HT0 := Lib.hid ht
  have HD := Lib.hid hd
  have HOK := Lib.hid hok
  clear ih hc ht hd hok
  go_enter Tryd.func20, Tryd.ntmps20
  go_upto_region 1 with fail
  generalize ((w.alloc (Obj.cells #[.int .i64 t.kind, .slice B t.args.length e0] 30)).alloc (Obj.cells #[.int .i64 0, .int .i64 0, .int .i64 0, .slice none 0 0, .slice none 0 0] 34)) = W at hBX ⊢
  have HCW := Lib.hid (HC0.out.turn hBX.turn)
  have HTW := Lib.hid (HT0.out.turn hBX.turn)
  have HDW := Lib.hid (HD.out.call hBX.below)
  have HBX := Lib.hid hBX
  have hWz : g < W.heap.size := by have := hBX.size; have := hBX.lt; omega
  obtain ⟨q0, q1⟩ := hBX.held (Turn.refl _ _)
  clear hBX HD
  go_wp2_with fail
  refine (vars_any G t _ _ W (by omega) (fun U hU => by have := (HCW.out.ok U hU).2; omega) (by omega) (HCW.out.sl.keep (fun _ h => h.2) (fun _ _ => rfl)) HTW.out.below).mono ?_
  rintro e w1 ⟨x, rfl, hx, hb1⟩
  obtain ⟨Ax, cx, rfl⟩ := hx.form
  have HX := Lib.hid hx
  have T1 := Lib.hid (Turn.call (X := (· = g)) hb1)
  have D1 := Lib.hid (HDW.out.call hb1)
  clear hx hb1 q0 q1
  go_upto_region 2 with fail
  go_cut [27] (fun x wx => ∃ b : Bool, x = .bool b ∧ (b = true → 0 < (varsOf G t G.length).length) ∧ Deck wx g ∧ Turn (· = g) w1 wx)
  case first =>
    by_cases hv : 0 < (varsOf G t G.length).length
    · have e1 : decide (((varsOf G t G.length).length : Int) > 0) = true := decide_eq_true (by omega)
      go_wp2_with fail
      refine (next_any g 3 w1 (by omega) (by omega) D1.out).mono ?_
      rintro e w2 ⟨r, rfl, hr0, hr3, hd2, hg2⟩
      have HG2 := Lib.hid (And.intro hd2 hg2)
      clear hd2 hg2
      go_wp2_with fail
      go_meet
      exact ⟨_, rfl, fun _ => hv, HG2.out.1, turn_of HG2.out.2⟩
    · have e1 : decide (((varsOf G t G.length).length : Int) > 0) = false := decide_eq_false (by omega)
      go_wp2_with fail
      go_meet
      exact ⟨_, rfl, fun h => by simp at h, D1.out, Turn.refl _ _⟩
  case rest =>
    obtain ⟨b, rfl, hb, hd2, ht2⟩ := hcut
    rename World => wb
    have D2 := Lib.hid hd2
    have T2 := Lib.hid (T1.out.trans ht2)
    have HX2 := Lib.hid ht2
    clear hd2 ht2
    cases b with
    | true =>
      have hv := hb rfl
      have hvl := varsOf_len G t G.length
      clear hb
      go_wp2_with fail
      refine (next_any g ((varsOf G t G.length).length : Int) _ (by omega) (by omega) D2.out).mono ?_
      rintro e w3 ⟨r, rfl, hr0, hr3, hd3, hg3⟩
      obtain ⟨i, rfl⟩ : ∃ i : Nat, r = (i : Int) := ⟨r.toNat, by omega⟩
      have hi : i < (varsOf G t G.length).length := by omega
      have T3 := Lib.hid (T2.out.trans (turn_of hg3))
      have hx3 := HX.out.keep (S' := fun _ => True) (w' := w3) (fun _ _ => trivial) (fun p hp => World.cell?_of_block ((HX2.out.trans (turn_of hg3)).block p.block hp.2 (by have := hp.1; omega)))
      obtain ⟨a, rfl, _, hat⟩ := hx3.get i hi
      obtain ⟨vs, hvs, hcell⟩ := hat
      have hvs : vs = [.int .i64 ((varsOf G t G.length)[i] : Nat)] := hvs
      subst hvs
      have hq := hcell 0 _ rfl
      rw [add_zero', show IntR.n = 1 from rfl, Nat.mul_one] at hq
      have hmem := varsOf_mem (List.getElem_mem hi)
      have HM := Lib.hid (And.intro hmem hd3)
      clear hcell hx3 hmem hd3 hg3
      go_wp2_with fail
      refine (var_any _ w3).mono ?_
      rintro e w4 ⟨rfl, r4⟩
      have T4 := Lib.hid (T3.out.trans (tCa g r4))
      have K4 := Lib.hid (Deck.call HM.out.2 r4)
      clear r4 hq
      obtain ⟨_, _, _, _, _, f0, f1, f2, f3, f4⟩ := (HBX.out.result T4.out).facts5
      go_wp2_with fail
      obtain ⟨z0, z1, z2, z3, z4⟩ := ((HBX.out.result T4.out).set5 (.int .i64 1) (.int .i64 ((varsOf G t G.length)[i] : Nat)) (.int .i64 0) (.slice none 0 0) (.slice none 0 0)).cells5
      refine bodyPost_ret (v := .agg #[.int .i64 1, .int .i64 ((varsOf G t G.length)[i] : Nat), .int .i64 0, .slice none 0 0, .slice none 0 0]) (by simp [results, Tryd.results20, go_sem, z0, z1, z2, z3, z4]) rfl ?_
      exact term_end HBX.out T4.out K4.out (way_var HM.out.1.2) (show Trm W.heap.size w4 _ _ from var_is _ w4 _) (Nat.le_refl W.heap.size)
    | false =>
      clear hb
      go_upto_if 37 with fail
      go_cut [] (fun wx => Deck wx g ∧ Turn (· = g) wb wx)
      case first =>
        refine term_if (show Here g M G t d A c B e0 w W wb from ⟨IH.out, hm, hd5, hdn, hlen, HOK.out, hn, HCW.out, HTW.out, HT0.out, HBX.out, T2.out, D2.out⟩) HC0.out rfl _ ?_ ?_
        · exact fun _ _ h => h
        · intro z10 z11 z12 z13 z14 z15 z16 z38 z39 z40 z41 z42 z43 z44 z45 z46 z47 z48 z49 z50 z51 z52 z53 z54 z55 z56 z57 z58 z59 z60 z61 z62 z63 z64 z65 z66 z67 z68 z69 z70 z71 z72 z73 z74 z75 z76 z77 z78 z79 z80 z81 z82 z83 z84 z85 z86 z87 z88 z89 z90 z91 z92 z93 z94 z95 z96 z97 z98 z99 z100 z101 z102 z103 z104 z105 z106 z107 z108 z109 z110 z111 z112 z113 z114 z115 z116 z117 z118 z119 z120 z121 z122 z123 z124 z125 z126 z127 z128 z129 z130 z131 z132 z133 z134 z135 z136 z137 z138 z139 z140 z141 z142 z143 z144 z145 z146 z147 z148 z149 z150 z151 z152 z153 z154 z155 z156 z157 z158 z159 z160 z161 z162 z163 z164 z165 z166 z167 z168 z169 z170 z171 z172 z173 z174 z175 z176 z177 z178 z179 z180 z181 z182 z183 z184 z185 z186 z187 z188 z189 z190 z191 z192 z193 z194 z195 z196 z197 z198 z199 z200 z201 z202 z203 z204 z205 z206 z207 z208 z209 z210 z211 z212 w' hd' ht'
          try dsimp only
          go_wp2_with fail
          go_meet
          exact ⟨hd', ht'⟩
      case rest =>
        obtain ⟨hd4, ht4⟩ := hcut
        rename World => wk
        refine ‹∀ (a : Act) (w : World), Code.wp Tryd.prog _ _ a w → _› _ _ ?_
        refine term_kinds (show Here g M G t d A c B e0 w W wk from ⟨IH.out, hm, hd5, hdn, hlen, HOK.out, hn, HCW.out, HTW.out, HT0.out, HBX.out, (T2.out.trans ht4), hd4⟩) _ ?_
        exact fun _ _ h => h

theorem term_any (g : Nat) : ∀ M, IHT g M := by
  intro M
  induction M with
  | zero => intro G t d s v w h; omega
  | succ M ih =>
    intro G t d s v w h1 h2 h3 h4 h5 h6 hc ht hd
    exact term_step g M ih G t d s v w (by omega) h2 h3 h4 h5 h6 hc ht hd
end Go.Proofs.YtieafbmabnohhaaDoor
