/- reduce.Redex, reduce.Contract; Normal of what is too large. -/
import Derived.Test.YtdhidofmojaheaaDoorPackWalk
import Derived.Test.YtdhidofmojaheaaDoorPackRed
import Derived.Test.YtdhidofmojaheaaDoorMkKit
import Derived.Laws.AppendOwnNone
import Derived.Deep.CutBlock
import Derived.Test.YtdhidofmojaheaaDoorPackFin
import Derived.Test.YtdhidofmojaheaaDoorPackMatch
namespace Go.Proofs.YtdhidofmojaheaaDoor
open Go.RowKit

theorem fits_ok {t : Tm} (hok : t.ok = true) (hsz : t.size ≤ 400000) : FitsAll [t] := .inr ⟨by simp [okAllT, hok], by simp only [sizeAllT]; omega⟩
theorem err_large {t : Tm} (hok : t.ok = true) (hs : 4096 < t.size) : t.err = 4 := by unfold Tm.err; rw [if_pos hok, if_neg (by omega)]

/-- What Redex comes to. -/
def RedexTopR (t : Tm) (w : World) (e : Ending) (w' : World) : Prop :=
  Below w.heap.size w w' ∧ ((t.size ≤ 4096 ∧ e = .returned (.tuple #[.bool t.redex, .int .i64 0])) ∨ (4096 < t.size ∧ e = .returned (.tuple #[.bool false, .int .i64 4])))

set_option maxRecDepth 100000 in
set_option maxHeartbeats 4000000 in
theorem redexTop_any (t : Tm) (v : Value) (w : World) (hok : t.ok = true) (hsz : t.size ≤ 400000) (htab : Tab w) (hT : IsTm (· < w.heap.size) w t v) :
    Calls Tryd.prog 63 #[v] w (RedexTopR t w) := by
  obtain ⟨B, d, A, c, rfl, _⟩ := IsTm.form hT
  have HOK := Lib.hid (And.intro hok (And.intro (fits_ok hok hsz) (And.intro hT htab)))
  clear hok hsz hT htab
  go_enter Tryd.func63, Tryd.ntmps63
  go_upto_region 1 with fail
  obtain ⟨b1, z1, k1⟩ := new_blk (Below.refl w.heap.size w) (Nat.le_refl _) #[.int .i64 t.kind, .int .i64 t.index, .int .i64 t.type.kind, .slice B t.type.args.length d, .slice A t.args.length c] 34
  generalize w.alloc (Obj.cells #[.int .i64 t.kind, .int .i64 t.index, .int .i64 t.type.kind, .slice B t.type.args.length d, .slice A t.args.length c] 34) = W at b1 z1 k1 ⊢
  have H1 := Lib.hid b1
  have K1 := Lib.hid k1
  have hz1 := b1.size
  obtain ⟨r0, r1, r2, r3, r4, _, _, _, _, _⟩ := k1.facts5
  clear b1 k1
  go_wp2_with fail
  refine (checkT_fits t _ W HOK.out.2.1 (HOK.out.2.2.2.after H1.out) (IsTm.keep (fun b h => Nat.lt_of_lt_of_le h hz1) (fun p hp => H1.out.cell hp) _ HOK.out.2.2.1)).mono ?_
  rintro e w1 ⟨he, h2⟩
  have H2 := Lib.hid h2
  have hz2 := h2.size
  have B2 := Lib.hid (H1.out.trans (h2.mono hz1))
  clear h2 r0 r1 r2 r3 r4
  by_cases hs : t.size ≤ 4096
  · rw [errT_zero.2 ⟨HOK.out.1, hs⟩] at he
    subst he
    have HS := Lib.hid hs
    clear hs
    obtain ⟨r0, r1, r2, r3, r4, _, _, _, _, _⟩ := (K1.out.below H2.out K1.out.lt).facts5
    go_wp2_with fail
    refine (redex_any t _ w1 (.inl HOK.out.1) (IsTm.keep (fun b h => by have h' : b < w.heap.size := h; omega) (fun p hp => B2.out.cell hp) _ HOK.out.2.2.1)).mono ?_
    rintro e w2 ⟨rfl, h3⟩
    have B3 := Lib.hid (B2.out.trans (h3.mono B2.out.size))
    clear h3 r0 r1 r2 r3 r4
    go_wp2_with fail
    go_ret2
    exact ⟨B3.out, .inl ⟨HS.out, rfl⟩⟩
  · rw [err_large HOK.out.1 (by omega)] at he
    subst he
    have HS := Lib.hid (show 4096 < t.size by omega)
    clear hs
    go_wp2_with fail
    go_ret2
    exact ⟨B2.out, .inr ⟨HS.out, rfl⟩⟩

/-- The result of Contract is stored. -/
theorem contract_end {S : Nat → Prop} {T : Tm} {w V : World} {x0 x1 x2 x3 x4 : Value} {k i tk er : Int} {B A : Option Addr} {n d m c : Nat} (hS : ∀ b, S b → b < w.heap.size) (hb : Below w.heap.size w V)
    (he : #[x0, x1, x2, x3, x4] = #[Value.int .i64 k, .int .i64 i, .int .i64 tk, .slice B n d, .slice A m c])
    (h : (er = 0 ∧ T.size ≤ 4096 ∧ IsTm (fun b => (S b ∨ w.heap.size + 2 ≤ b) ∧ b < V.heap.size) V T (.agg #[.int .i64 k, .int .i64 i, .int .i64 tk, .slice B n d, .slice A m c])) ∨ (er = 4 ∧ 4096 < T.size)) :
    BecR S T w (.returned (.tuple #[.agg #[x0, x1, x2, x3, x4], .int .i64 er])) (((((V.setCell ⟨w.heap.size + 1, 0, none⟩ x0).setCell ⟨w.heap.size + 1, 1, none⟩ x1).setCell ⟨w.heap.size + 1, 2, none⟩ x2).setCell ⟨w.heap.size + 1, 3, none⟩ x3).setCell ⟨w.heap.size + 1, 4, none⟩ x4) := by
  have hg := only_set5 V (w.heap.size + 1) x0 x1 x2 x3 x4
  refine ⟨k, i, tk, B, A, n, d, m, c, er, by rw [he], hb.grown hg hb.size (fun k e => by cases e; omega), ?_⟩
  rcases h with ⟨h1, h2, h3⟩ | h
  · refine .inl ⟨h1, h2, IsTm.keep (fun b h => ⟨h.1.imp id (fun x => by omega), Nat.lt_of_lt_of_le h.2 hg.size⟩) (fun p hp => World.cell?_of_block (hg.block p.block hp.2 (fun e => ?_))) _ h3⟩
    have e' : p.block = w.heap.size + 1 := by simpa using e
    exact hp.1.elim (fun h => by have := hS _ h; omega) (fun h => by omega)
  · exact .inr h

set_option maxRecDepth 100000 in
set_option maxHeartbeats 4000000 in
theorem contract_any (t : Tm) (v : Value) (S : Nat → Prop) (w : World) (hok : t.ok = true) (hr : t.redex = true) (hsz : t.size ≤ 4096) (hlow : t.low 536870912 = true) (htab : Tab w) (hS : ∀ b, S b → b < w.heap.size) (hT : IsTm S w t v) :
    Calls Tryd.prog 64 #[v] w (BecR S t.becomes w) := by
  obtain ⟨B, d, A, c, rfl, _⟩ := IsTm.form hT
  have hbk := ok_bulk hok
  have htp := top_low _ hlow
  have HOK := Lib.hid (And.intro hok (And.intro hr (And.intro hsz hlow)))
  have HS := Lib.hid hS
  have HT := Lib.hid hT
  have HTab := Lib.hid htab
  clear hok hr hlow hS hT htab
  go_enter Tryd.func64, Tryd.ntmps64
  go_upto_region 1 with fail
  obtain ⟨W, hW, b2, z2, k0, k1⟩ := alloc2_facts w #[.int .i64 t.kind, .int .i64 t.index, .int .i64 t.type.kind, .slice B t.type.args.length d, .slice A t.args.length c] #[.int .i64 0, .int .i64 0, .int .i64 0, .slice none 0 0, .slice none 0 0] 34 34
  rw [← hW]
  obtain ⟨r0, r1, r2, r3, r4, _, _, _, _, _⟩ := k0.facts5
  have HB := Lib.hid (And.intro b2 z2)
  have HK := Lib.hid (And.intro k0 k1)
  have hzW := b2.size
  clear hW b2 k0 k1
  go_wp2_with fail
  refine (redexTop_any t _ W HOK.out.1 (by omega) (HTab.out.after HB.out.1) (IsTm.keep (fun b h => Nat.lt_of_lt_of_le (HS.out b h) hzW) (fun p hp => HB.out.1.cell (HS.out _ hp)) _ HT.out)).mono ?_
  rintro e w1 ⟨h1, h1'⟩
  have he := (h1'.resolve_right (fun h => by omega)).2
  rw [HOK.out.2.1] at he
  subst he
  have B1 := Lib.hid (HB.out.1.trans (h1.mono hzW))
  have C1 := Lib.hid h1
  have hz1 := h1.size
  obtain ⟨s0, s1, s2, s3, s4, _, _, _, _, _⟩ := (HK.out.1.below h1 HK.out.1.lt).facts5
  clear h1 h1' r0 r1 r2 r3 r4
  go_wp2_with fail
  refine (measure_any t.bulk t _ w1 (Nat.le_refl _) (by omega) HOK.out.1 (low_mono (by omega) _ HOK.out.2.2.2) (IsTm.keep (fun b h => by have h1 := HS.out b h; omega) (fun p hp => B1.out.cell (HS.out _ hp)) _ HT.out)).mono ?_
  rintro e w2 ⟨rfl, hc2⟩
  have B2 := Lib.hid (B1.out.trans (hc2.mono (by omega)))
  have C2 := Lib.hid (C1.out.trans (hc2.mono (by omega)))
  have hz2 := hc2.size
  have e3 : decide (t.top > 536870912) = false := decide_eq_false (by omega)
  obtain ⟨r0, r1, r2, r3, r4, _, _, _, _, _⟩ := (HK.out.1.below C2.out HK.out.1.lt).facts5
  clear hc2 s0 s1 s2 s3 s4
  go_wp2_with fail
  refine (becomes_any t _ S w2 HOK.out.1 HOK.out.2.1 HOK.out.2.2.1 HOK.out.2.2.2 (HTab.out.after B2.out) (fun b h => by have h1 := HS.out b h; omega) (IsTm.keep (fun _ h => h) (fun p hp => B2.out.cell (HS.out _ hp)) _ HT.out)).mono ?_
  rintro e w3 ⟨pk, pi, ptk, pB, pA, pn, pd, pm, pc, er, rfl, r5, h5⟩
  have hz3 := r5.size
  have H5 := Lib.hid h5
  have B3 := Lib.hid (B2.out.trans (r5.mono (by omega)))
  have K1 := Lib.hid (HK.out.2.below (C2.out.trans (r5.mono (by omega))) HK.out.2.lt)
  obtain ⟨_, _, _, _, _, f0, f1, f2, f3, f4⟩ := K1.out.facts5
  have hzz := HB.out.2
  clear h5 r5 r0 r1 r2 r3 r4
  go_wp2_with fail
  obtain ⟨y0, y1, y2, y3, y4⟩ := (K1.out.set5 (.int .i64 pk) (.int .i64 pi) (.int .i64 ptk) (.slice pB pn pd) (.slice pA pm pc)).cells5
  exact bodyPost_ret (v := .tuple #[.agg #[.int .i64 pk, .int .i64 pi, .int .i64 ptk, .slice pB pn pd, .slice pA pm pc], .int .i64 er]) (by simp [results, Tryd.results64, go_sem, y0, y1, y2, y3, y4]) rfl
    (contract_end HS.out B3.out rfl (H5.out.imp (fun h => ⟨h.1, h.2.1, IsTm.keep (fun b h => ⟨h.1.imp id (fun x => by omega), h.2⟩) (fun _ _ => rfl) _ h.2.2⟩) id))

/-- Where a term is too large. -/
def BigR (w : World) (e : Ending) (w' : World) : Prop := e = .returned (.tuple #[.agg #[.int .i64 0, .int .i64 0, .int .i64 0, .slice none 0 0, .slice none 0 0], .int .i64 0, .int .i64 4]) ∧ Below w.heap.size w w'

set_option maxRecDepth 100000 in
set_option maxHeartbeats 4000000 in
theorem walked_large (t : Tm) (v : Value) (lim : Int) (w : World) (hok : t.ok = true) (hs : 4096 < t.size) (hsz : t.size ≤ 400000) (htab : Tab w) (hT : IsTm (· < w.heap.size) w t v) :
    Calls Tryd.prog 53 #[v, .int .i64 lim] w (BigR w) := by
  obtain ⟨B, d, A, c, rfl, _⟩ := IsTm.form hT
  have HOK := Lib.hid (And.intro (err_large hok hs) (And.intro (fits_ok hok hsz) (And.intro hT htab)))
  clear hok hsz hT htab hs
  go_enter Tryd.func53, Tryd.ntmps53
  go_upto_region 1 with fail
  obtain ⟨W, hW, b2, z2, k0, k1⟩ := alloc2_facts w #[.int .i64 t.kind, .int .i64 t.index, .int .i64 t.type.kind, .slice B t.type.args.length d, .slice A t.args.length c] #[.int .i64 0, .int .i64 0, .int .i64 0, .slice none 0 0, .slice none 0 0] 34 34
  rw [← hW]
  obtain ⟨r0, r1, r2, r3, r4, _, _, _, _, _⟩ := k0.facts5
  have HB := Lib.hid (And.intro b2 z2)
  have HK := Lib.hid k1
  have hzW := b2.size
  clear hW b2 k0 k1
  go_wp2_with fail
  refine (checkT_fits t _ W HOK.out.2.1 (HOK.out.2.2.2.after HB.out.1) (IsTm.keep (fun b h => Nat.lt_of_lt_of_le h hzW) (fun p hp => HB.out.1.cell hp) _ HOK.out.2.2.1)).mono ?_
  rintro e w1 ⟨he, hc1⟩
  rw [HOK.out.1] at he
  subst he
  have B1 := Lib.hid (HB.out.1.trans (hc1.mono hzW))
  have K1 := Lib.hid (HK.out.below hc1 HK.out.lt)
  obtain ⟨_, _, _, _, _, f0, f1, f2, f3, f4⟩ := K1.out.facts5
  have hz1 := hc1.size
  clear hc1 r0 r1 r2 r3 r4
  go_wp2_with fail
  obtain ⟨y0, y1, y2, y3, y4⟩ := (K1.out.set5 (.int .i64 0) (.int .i64 0) (.int .i64 0) (.slice none 0 0) (.slice none 0 0)).cells5
  have hg := only_set5 w1 (w.heap.size + 1) (.int .i64 0) (.int .i64 0) (.int .i64 0) (.slice none 0 0) (.slice none 0 0)
  exact bodyPost_ret (v := .tuple #[.agg #[.int .i64 0, .int .i64 0, .int .i64 0, .slice none 0 0, .slice none 0 0], .int .i64 0, .int .i64 4]) (by simp [results, Tryd.results53, go_sem, y0, y1, y2, y3, y4]) rfl
    ⟨rfl, B1.out.grown hg (by omega) (fun k e => by cases e; omega)⟩

set_option maxRecDepth 100000 in
set_option maxHeartbeats 4000000 in
theorem normal_large (t : Tm) (v : Value) (lim : Int) (w : World) (hok : t.ok = true) (hs : 4096 < t.size) (hsz : t.size ≤ 400000) (htab : Tab w) (hT : IsTm (· < w.heap.size) w t v) :
    Calls Tryd.prog 18 #[v, .int .i64 lim] w (BigR w) := by
  obtain ⟨B, d, A, c, rfl, _⟩ := IsTm.form hT
  have HP := Lib.hid (fun (W : World) (hw : Below w.heap.size w W) => walked_large t _ lim W hok hs hsz (htab.after hw) (IsTm.keep (fun b h => Nat.lt_of_lt_of_le h hw.size) (fun p hp => hw.cell hp) _ hT))
  clear hok hs hsz htab hT
  go_enter Tryd.func18, Tryd.ntmps18
  go_upto_region 1 with fail
  obtain ⟨W, hW, b2, z2, k0, k1⟩ := alloc2_facts w #[.int .i64 t.kind, .int .i64 t.index, .int .i64 t.type.kind, .slice B t.type.args.length d, .slice A t.args.length c] #[.int .i64 0, .int .i64 0, .int .i64 0, .slice none 0 0, .slice none 0 0] 34 34
  rw [← hW]
  obtain ⟨r0, r1, r2, r3, r4, _, _, _, _, _⟩ := k0.facts5
  have HB := Lib.hid (And.intro b2 z2)
  have HK := Lib.hid k1
  have hzW := b2.size
  clear hW b2 k0 k1
  go_wp2_with fail
  refine (HP.out W HB.out.1).mono ?_
  rintro e w1 ⟨rfl, hb1⟩
  have hz1 := hb1.size
  have HE := Lib.hid hb1
  have k1 := HK.out.below hb1 HK.out.lt
  clear hb1 r0 r1 r2 r3 r4
  go_upto_region 2 with fail
  obtain ⟨b5, z5, k6⟩ := new_blk (Below.refl w1.heap.size w1) (Nat.le_refl _) #[.int .i64 0, .int .i64 0, .int .i64 0, .slice none 0 0, .slice none 0 0] 34
  have K1 := Lib.hid (k1.below b5 k1.lt)
  generalize w1.alloc (Obj.cells #[.int .i64 0, .int .i64 0, .int .i64 0, .slice none 0 0, .slice none 0 0] 34) = W5 at b5 z5 k6 K1 ⊢
  obtain ⟨_, _, _, _, _, f0, f1, f2, f3, f4⟩ := K1.out.facts5
  have H5 := Lib.hid (HB.out.1.trans ((HE.out.trans (b5.mono hz1)).mono hzW))
  clear b5 k6 k1
  go_wp2_with fail
  obtain ⟨y0, y1, y2, y3, y4⟩ := (K1.out.set5 (.int .i64 0) (.int .i64 0) (.int .i64 0) (.slice none 0 0) (.slice none 0 0)).cells5
  have hg := only_set5 W5 (w.heap.size + 1) (.int .i64 0) (.int .i64 0) (.int .i64 0) (.slice none 0 0) (.slice none 0 0)
  exact bodyPost_ret (v := .tuple #[.agg #[.int .i64 0, .int .i64 0, .int .i64 0, .slice none 0 0, .slice none 0 0], .int .i64 0, .int .i64 4]) (by simp [results, Tryd.results18, go_sem, y0, y1, y2, y3, y4]) rfl
    ⟨rfl, H5.out.grown hg H5.out.size (fun k e => by cases e; omega)⟩
end Go.Proofs.YtdhidofmojaheaaDoor
namespace Go.Proofs.YtdhidofmojaheaaDoor
open Go.RowKit

/-! Lifting and putting in, one after the other. -/
theorem lift_mk (k i : Int) (T : Ty) (l : List Tm) (m n : Nat) : (Tm.mk k i T l).lift m n = .mk k (if k = 1 ∧ (m : Int) ≤ i then i + n else i) T (liftAll l (if k = 2 then m + 1 else m) n) := by rw [Tm.lift]
theorem lift_var (i : Int) (T : Ty) (m n : Nat) : (Tm.mk 1 i T []).lift m n = .mk 1 (if (m : Int) ≤ i then i + n else i) T [] := by
  rw [lift_mk]; simp [liftAll]
theorem lift_node {k i : Int} {T : Ty} {l : List Tm} {m n : Nat} (hk : k ≠ 1) : (Tm.mk k i T l).lift m n = .mk k i T (liftAll l (if k = 2 then m + 1 else m) n) := by
  rw [lift_mk, if_neg (fun e => hk e.1)]
theorem put_var (i : Int) (T : Ty) (m : Nat) (s : Tm) : (Tm.mk 1 i T []).put m s = if i = (m : Int) then s.lift 0 m else if (m : Int) < i then .mk 1 (i - 1) T [] else .mk 1 i T [] := by
  rw [Tm.put, if_pos rfl]
theorem put_node {k i : Int} {T : Ty} {l : List Tm} {m : Nat} {s : Tm} (hk : k ≠ 1) : (Tm.mk k i T l).put m s = .mk k i T (putAll l (if k = 2 then m + 1 else m) s) := by
  rw [Tm.put, if_neg hk]
theorem var_nil {i : Int} {T : Ty} {l : List Tm} (h : (Tm.mk 1 i T l).ok = true) : l = [] := len0 (ok_len h)
theorem ok_parts {k i : Int} {T : Ty} {l : List Tm} (h : (Tm.mk k i T l).ok = true) : okAllT l = true := by
  rw [Tm.ok, Bool.and_eq_true] at h; exact h.2
theorem put_var_eq {i : Int} {T : Ty} {m : Nat} {s : Tm} (h : i = (m : Int)) : (Tm.mk 1 i T []).put m s = s.lift 0 m := by rw [put_var, if_pos h]
theorem put_var_gt {i : Int} {T : Ty} {m : Nat} {s : Tm} (h : (m : Int) < i) : (Tm.mk 1 i T []).put m s = .mk 1 (i - 1) T [] := by rw [put_var, if_neg (by omega), if_pos h]
theorem put_var_lt {i : Int} {T : Ty} {m : Nat} {s : Tm} (h : i < (m : Int)) : (Tm.mk 1 i T []).put m s = .mk 1 i T [] := by rw [put_var, if_neg (by omega), if_neg (by omega)]
theorem lift_var_ge {i : Int} {T : Ty} {m n : Nat} (h : (m : Int) ≤ i) : (Tm.mk 1 i T []).lift m n = .mk 1 (i + n) T [] := by rw [lift_var, if_pos h]
theorem lift_var_lt {i : Int} {T : Ty} {m n : Nat} (h : i < (m : Int)) : (Tm.mk 1 i T []).lift m n = .mk 1 i T [] := by rw [lift_var, if_neg (by omega)]

mutual
theorem lift_merge : ∀ (t : Tm) (q a p b : Nat), t.ok = true → p ≤ a → (t.lift q a).lift (q + p) b = t.lift q (a + b)
  | .mk k i T l, q, a, p, b, ho, h => by
    by_cases hk : k = 1
    · subst hk
      obtain rfl := var_nil ho
      by_cases hi : (q : Int) ≤ i
      · rw [lift_var_ge hi, lift_var_ge hi, lift_var_ge (by omega)]; congr 1; omega
      · rw [lift_var_lt (by omega), lift_var_lt (by omega), lift_var_lt (by omega)]
    · rw [lift_node hk, lift_node hk, lift_node hk, show (if k = 2 then q + p + 1 else q + p) = (if k = 2 then q + 1 else q) + p from by split <;> omega, liftAll_merge l _ a p b (ok_parts ho) h]
theorem liftAll_merge : ∀ (l : List Tm) (q a p b : Nat), okAllT l = true → p ≤ a → liftAll (liftAll l q a) (q + p) b = liftAll l q (a + b)
  | [], _, _, _, _, _, _ => by simp [liftAll]
  | t :: r, q, a, p, b, ho, h => by
    simp only [okAllT, Bool.and_eq_true] at ho
    simp only [liftAll, lift_merge t q a p b ho.1 h, liftAll_merge r q a p b ho.2 h]
end
mutual
theorem lift_comm : ∀ (t : Tm) (q p m n : Nat), t.ok = true → (t.lift q p).lift (q + p + m) n = (t.lift (q + m) n).lift q p
  | .mk k i T l, q, p, m, n, ho => by
    by_cases hk : k = 1
    · subst hk
      obtain rfl := var_nil ho
      by_cases hi : (q : Int) ≤ i
      · rw [lift_var_ge hi]
        by_cases hj : ((q + m : Nat) : Int) ≤ i
        · rw [lift_var_ge (i := i) hj, lift_var_ge (by omega), lift_var_ge (by omega)]; congr 1; omega
        · rw [lift_var_lt (i := i) (by omega), lift_var_lt (by omega), lift_var_ge (by omega)]
      · rw [lift_var_lt (by omega), lift_var_lt (by omega), lift_var_lt (by omega), lift_var_lt (by omega)]
    · rw [lift_node hk, lift_node hk, lift_node hk, lift_node hk, show (if k = 2 then q + p + m + 1 else q + p + m) = (if k = 2 then q + 1 else q) + p + m from by split <;> omega,
        liftAll_comm l _ p m n (ok_parts ho), show (if k = 2 then q + 1 else q) + m = (if k = 2 then q + m + 1 else q + m) from by split <;> omega]
theorem liftAll_comm : ∀ (l : List Tm) (q p m n : Nat), okAllT l = true → liftAll (liftAll l q p) (q + p + m) n = liftAll (liftAll l (q + m) n) q p
  | [], _, _, _, _, _ => by simp [liftAll]
  | t :: r, q, p, m, n, ho => by
    simp only [okAllT, Bool.and_eq_true] at ho
    simp only [liftAll, lift_comm t q p m n ho.1, liftAll_comm r q p m n ho.2]
end
mutual
theorem lift_put_hi (r : Tm) (hr : r.ok = true) : ∀ (t : Tm) (p m n : Nat), t.ok = true → (t.lift p m).put (p + m + n) r = (t.put (p + n) r).lift p m
  | .mk k i T l, p, m, n, ho => by
    by_cases hk : k = 1
    · subst hk
      obtain rfl := var_nil ho
      by_cases h1 : i = ((p + n : Nat) : Int)
      · rw [lift_var_ge (by omega), put_var_eq (by omega), put_var_eq h1]
        have := lift_merge r 0 (p + n) p m hr (by omega)
        rw [Nat.zero_add] at this
        rw [this]; congr 1; omega
      · by_cases h2 : ((p + n : Nat) : Int) < i
        · rw [lift_var_ge (by omega), put_var_gt (by omega), put_var_gt h2, lift_var_ge (by omega)]; congr 1; omega
        · rw [put_var_lt (i := i) (by omega)]
          by_cases h3 : (p : Int) ≤ i
          · rw [lift_var_ge h3, put_var_lt (by omega)]
          · rw [lift_var_lt (by omega), put_var_lt (by omega)]
    · rw [lift_node hk, put_node hk, put_node hk, lift_node hk, show (if k = 2 then p + m + n + 1 else p + m + n) = (if k = 2 then p + 1 else p) + m + n from by split <;> omega,
        liftAll_put_hi r hr l _ m n (ok_parts ho), show (if k = 2 then p + 1 else p) + n = (if k = 2 then p + n + 1 else p + n) from by split <;> omega]
theorem liftAll_put_hi (r : Tm) (hr : r.ok = true) : ∀ (l : List Tm) (p m n : Nat), okAllT l = true → putAll (liftAll l p m) (p + m + n) r = liftAll (putAll l (p + n) r) p m
  | [], _, _, _, _ => by simp [liftAll, putAll]
  | t :: l, p, m, n, ho => by
    simp only [okAllT, Bool.and_eq_true] at ho
    simp only [liftAll, putAll, lift_put_hi r hr t p m n ho.1, liftAll_put_hi r hr l p m n ho.2]
end
mutual
theorem lift_put_lo (s : Tm) : ∀ (t : Tm) (q a p : Nat), t.ok = true → p ≤ a → (t.lift q (a + 1)).put (q + p) s = t.lift q a
  | .mk k i T l, q, a, p, ho, h => by
    by_cases hk : k = 1
    · subst hk
      obtain rfl := var_nil ho
      by_cases h1 : (q : Int) ≤ i
      · rw [lift_var_ge h1, lift_var_ge h1, put_var_gt (by omega)]; congr 1; omega
      · rw [lift_var_lt (by omega), lift_var_lt (by omega), put_var_lt (by omega)]
    · rw [lift_node hk, put_node hk, lift_node hk, show (if k = 2 then q + p + 1 else q + p) = (if k = 2 then q + 1 else q) + p from by split <;> omega, liftAll_put_lo s l _ a p (ok_parts ho) h]
theorem liftAll_put_lo (s : Tm) : ∀ (l : List Tm) (q a p : Nat), okAllT l = true → p ≤ a → putAll (liftAll l q (a + 1)) (q + p) s = liftAll l q a
  | [], _, _, _, _, _ => by simp [liftAll, putAll]
  | t :: l, q, a, p, ho, h => by
    simp only [okAllT, Bool.and_eq_true] at ho
    simp only [liftAll, putAll, lift_put_lo s t q a p ho.1 h, liftAll_put_lo s l q a p ho.2 h]
end
mutual
theorem put_lift (a : Tm) (ha : a.ok = true) : ∀ (t : Tm) (p m n : Nat), t.ok = true → (t.put p a).lift (p + m) n = (t.lift (p + m + 1) n).put p (a.lift m n)
  | .mk k i T l, p, m, n, ho => by
    by_cases hk : k = 1
    · subst hk
      obtain rfl := var_nil ho
      by_cases h1 : i = (p : Int)
      · rw [put_var_eq h1, lift_var_lt (by omega), put_var_eq h1]
        have := lift_comm a 0 p m n ha
        simp only [Nat.zero_add] at this
        exact this
      · by_cases h2 : (p : Int) < i
        · rw [put_var_gt h2]
          by_cases h3 : ((p + m + 1 : Nat) : Int) ≤ i
          · rw [lift_var_ge (by omega), lift_var_ge h3, put_var_gt (by omega)]; congr 1; omega
          · rw [lift_var_lt (by omega), lift_var_lt (by omega), put_var_gt h2]
        · rw [put_var_lt (by omega), lift_var_lt (by omega), lift_var_lt (by omega), put_var_lt (by omega)]
    · rw [put_node hk, lift_node hk, lift_node hk, put_node hk, show (if k = 2 then p + m + 1 else p + m) = (if k = 2 then p + 1 else p) + m from by split <;> omega,
        putAll_lift a ha l _ m n (ok_parts ho), show (if k = 2 then p + 1 else p) + m + 1 = (if k = 2 then p + m + 1 + 1 else p + m + 1) from by split <;> omega]
theorem putAll_lift (a : Tm) (ha : a.ok = true) : ∀ (l : List Tm) (p m n : Nat), okAllT l = true → liftAll (putAll l p a) (p + m) n = putAll (liftAll l (p + m + 1) n) p (a.lift m n)
  | [], _, _, _, _ => by simp [liftAll, putAll]
  | t :: l, p, m, n, ho => by
    simp only [okAllT, Bool.and_eq_true] at ho
    simp only [liftAll, putAll, put_lift a ha t p m n ho.1, putAll_lift a ha l p m n ho.2]
end
mutual
/-- What is put in can be exchanged. -/
theorem put_put (a r : Tm) (ha : a.ok = true) (hr : r.ok = true) : ∀ (t : Tm) (m n : Nat), t.ok = true → (t.put m a).put (m + n) r = (t.put (m + n + 1) r).put m (a.put n r)
  | .mk k i T l, m, n, ho => by
    by_cases hk : k = 1
    · subst hk
      obtain rfl := var_nil ho
      by_cases h1 : i = (m : Int)
      · rw [put_var_eq h1, put_var_lt (by omega), put_var_eq h1]
        have := lift_put_hi r hr a 0 m n ha
        simp only [Nat.zero_add] at this
        exact this
      · by_cases h2 : (m : Int) < i
        · rw [put_var_gt h2]
          by_cases h3 : i = ((m + n + 1 : Nat) : Int)
          · rw [put_var_eq (by omega), put_var_eq h3]
            have := lift_put_lo (a.put n r) r 0 (m + n) m hr (by omega)
            rw [Nat.zero_add] at this
            exact this.symm
          · by_cases h4 : ((m + n + 1 : Nat) : Int) < i
            · rw [put_var_gt (by omega), put_var_gt h4, put_var_gt (by omega)]
            · rw [put_var_lt (by omega), put_var_lt (by omega), put_var_gt h2]
        · rw [put_var_lt (by omega), put_var_lt (by omega), put_var_lt (by omega), put_var_lt (by omega)]
    · rw [put_node hk, put_node hk, put_node hk, put_node hk, show (if k = 2 then m + n + 1 else m + n) = (if k = 2 then m + 1 else m) + n from by split <;> omega,
        putAll_put a r ha hr l _ n (ok_parts ho), show (if k = 2 then m + 1 else m) + n + 1 = (if k = 2 then m + n + 1 + 1 else m + n + 1) from by split <;> omega]
theorem putAll_put (a r : Tm) (ha : a.ok = true) (hr : r.ok = true) : ∀ (l : List Tm) (m n : Nat), okAllT l = true → putAll (putAll l m a) (m + n) r = putAll (putAll l (m + n + 1) r) m (a.put n r)
  | [], _, _, _ => by simp [putAll]
  | t :: l, m, n, ho => by
    simp only [okAllT, Bool.and_eq_true] at ho
    simp only [putAll, put_put a r ha hr t m n ho.1, putAll_put a r ha hr l m n ho.2]
end

/-! Redexes and what is lifted and put in. -/
theorem Red.lift {t u : Tm} (h : Red t u) (ho : t.ok = true) (m n : Nat) : Red (t.lift m n) (u.lift m n) := by
  cases h with
  | app i T j U b a =>
    have hb := ok_arg (ok_arg ho (a := .mk 2 j U [b]) (by simp)) (a := b) (by simp)
    have ha := ok_arg ho (a := a) (by simp)
    have e := put_lift a ha b 0 m n hb
    simp only [Nat.zero_add] at e
    rw [e]
    simp only [lift_mk, liftAll]
    exact Red.app _ _ _ _ _ _
  | zero => simp only [lift_mk, liftAll]; exact Red.zero _ _ _ _ _ _
  | nil => simp only [lift_mk, liftAll]; exact Red.nil _ _ _ _ _ _
  | succ => simp only [lift_mk, liftAll]; exact Red.succ _ _ _ _ _ _ _
  | cons => simp only [lift_mk, liftAll]; exact Red.cons _ _ _ _ _ _ _ _
  | fst => simp only [lift_mk, liftAll]; exact Red.fst _ _ _ _ _ _
  | snd => simp only [lift_mk, liftAll]; exact Red.snd _ _ _ _ _ _
theorem Red.put {t u r : Tm} (h : Red t u) (ho : t.ok = true) (hr : r.ok = true) (n : Nat) : Red (t.put n r) (u.put n r) := by
  cases h with
  | app i T j U b a =>
    have hb := ok_arg (ok_arg ho (a := .mk 2 j U [b]) (by simp)) (a := b) (by simp)
    have ha := ok_arg ho (a := a) (by simp)
    have e := put_put a r ha hr b 0 n hb
    simp only [Nat.zero_add] at e
    rw [e, put_node (by decide)]
    simp only [putAll]
    rw [put_node (by decide)]
    exact Red.app _ _ _ _ _ _
  | zero => rw [put_node (by decide)]; simp only [putAll]; rw [put_node (by decide) (k := 4)]; exact Red.zero _ _ _ _ _ _
  | nil => rw [put_node (by decide)]; simp only [putAll]; rw [put_node (by decide) (k := 7)]; exact Red.nil _ _ _ _ _ _
  | succ => simp only [put_node (show (6 : Int) ≠ 1 by decide), put_node (show (5 : Int) ≠ 1 by decide), put_node (show (3 : Int) ≠ 1 by decide), putAll]; exact Red.succ _ _ _ _ _ _ _
  | cons => simp only [put_node (show (9 : Int) ≠ 1 by decide), put_node (show (8 : Int) ≠ 1 by decide), put_node (show (3 : Int) ≠ 1 by decide), putAll]; exact Red.cons _ _ _ _ _ _ _ _
  | fst => simp only [put_node (show (11 : Int) ≠ 1 by decide), put_node (show (10 : Int) ≠ 1 by decide), putAll]; exact Red.fst _ _ _ _ _ _
  | snd => simp only [put_node (show (12 : Int) ≠ 1 by decide), put_node (show (10 : Int) ≠ 1 by decide), putAll]; exact Red.snd _ _ _ _ _ _
theorem Red.one {t u v : Tm} (h : Red t u) (k : Red t v) : u = v := by
  cases h <;> cases k <;> rfl
theorem Red.redex {t u : Tm} (h : Red t u) : t.redex = true := by
  cases h <;> rfl
/-- The kinds of redexes. -/
def headKind (k : Int) : Prop := k = 3 ∨ k = 6 ∨ k = 9 ∨ k = 11 ∨ k = 12
theorem Red.head {k i : Int} {T : Ty} {l : List Tm} {u : Tm} (h : Red (.mk k i T l) u) : headKind k := by
  unfold headKind
  cases h <;> simp

/-! Steps side by side. -/
mutual
/-- Some redexes are reduced at once, from the inside to the outside. -/
inductive Par : Tm → Tm → Prop
  | node (k i : Int) (T : Ty) (l m : List Tm) (h : ParAll l m) : Par (.mk k i T l) (.mk k i T m)
  | red (k i : Int) (T : Ty) (l m : List Tm) (u : Tm) (h : ParAll l m) (r : Red (.mk k i T m) u) : Par (.mk k i T l) u
inductive ParAll : List Tm → List Tm → Prop
  | nil : ParAll [] []
  | cons (t u : Tm) (l m : List Tm) (h : Par t u) (r : ParAll l m) : ParAll (t :: l) (u :: m)
end
mutual
theorem Par.refl : ∀ t : Tm, Par t t
  | .mk k i T l => .node k i T l l (ParAll.refl l)
theorem ParAll.refl : ∀ l : List Tm, ParAll l l
  | [] => .nil
  | t :: l => .cons t t l l (Par.refl t) (ParAll.refl l)
end
theorem ParAll.len : ∀ {l m : List Tm}, ParAll l m → m.length = l.length
  | [], _, h => by cases h; rfl
  | t :: l, _, h => by cases h with | cons _ u _ m h r => simp [ParAll.len r]
theorem node_ok {k i : Int} {T : Ty} {l m : List Tm} (h : (Tm.mk k i T l).ok = true) (hlen : m.length = l.length) (hm : okAllT m = true) : (Tm.mk k i T m).ok = true :=
  ok_same h hlen fun _ ha => okAllT_mem hm ha
mutual
theorem Par.ok : ∀ {t u : Tm}, Par t u → t.ok = true → u.ok = true
  | .mk k i T l, _, h, ho => by
    cases h with
    | node _ _ _ _ m h => exact node_ok ho h.len (ParAll.ok h (ok_parts ho))
    | red _ _ _ _ m u h r => exact r.ok (node_ok ho h.len (ParAll.ok h (ok_parts ho)))
theorem ParAll.ok : ∀ {l m : List Tm}, ParAll l m → okAllT l = true → okAllT m = true
  | [], _, h, _ => by cases h; rfl
  | t :: l, _, h, ho => by
    simp only [okAllT, Bool.and_eq_true] at ho
    cases h with
    | cons _ u _ m h r =>
      simp only [okAllT, Bool.and_eq_true]
      exact ⟨Par.ok h ho.1, ParAll.ok r ho.2⟩
end
mutual
theorem Par.lift : ∀ {t u : Tm} (m n : Nat), Par t u → t.ok = true → Par (t.lift m n) (u.lift m n)
  | .mk k i T l, _, m, n, h, ho => by
    cases h with
    | node _ _ _ _ l' h =>
      rw [lift_mk, lift_mk]
      exact .node _ _ _ _ _ (ParAll.lift _ n h (ok_parts ho))
    | red _ _ _ _ l' u h r =>
      have hr := r.lift (node_ok ho h.len (ParAll.ok h (ok_parts ho))) m n
      rw [lift_mk] at hr ⊢
      exact .red _ _ _ _ _ _ (ParAll.lift _ n h (ok_parts ho)) hr
theorem ParAll.lift : ∀ {l l' : List Tm} (m n : Nat), ParAll l l' → okAllT l = true → ParAll (liftAll l m n) (liftAll l' m n)
  | [], _, m, n, h, _ => by cases h; simp only [liftAll]; exact .nil
  | t :: l, _, m, n, h, ho => by
    simp only [okAllT, Bool.and_eq_true] at ho
    cases h with
    | cons _ u _ l' h r =>
      simp only [liftAll]
      exact .cons _ _ _ _ (Par.lift m n h ho.1) (ParAll.lift m n r ho.2)
end
mutual
theorem Par.put {s r : Tm} (hs : s.ok = true) (hsr : Par s r) : ∀ {t u : Tm} (m : Nat), Par t u → t.ok = true → Par (t.put m s) (u.put m r)
  | .mk k i T l, _, m, h, ho => by
    cases h with
    | node _ _ _ _ l' h =>
      by_cases hk : k = 1
      · subst hk
        obtain rfl := var_nil ho
        cases h
        rw [put_var, put_var]
        split
        · exact hsr.lift 0 m hs
        · exact Par.refl _
      · rw [put_node hk, put_node hk]
        exact .node _ _ _ _ _ (ParAll.put hs hsr _ h (ok_parts ho))
    | red _ _ _ _ l' u h x =>
      have hx := x.put (node_ok ho h.len (ParAll.ok h (ok_parts ho))) (hsr.ok hs) m
      have hk : k ≠ 1 := by
        have := x.head
        unfold headKind at this
        omega
      rw [put_node hk] at hx ⊢
      exact .red _ _ _ _ _ _ (ParAll.put hs hsr _ h (ok_parts ho)) hx
theorem ParAll.put {s r : Tm} (hs : s.ok = true) (hsr : Par s r) : ∀ {l l' : List Tm} (m : Nat), ParAll l l' → okAllT l = true → ParAll (putAll l m s) (putAll l' m r)
  | [], _, m, h, _ => by cases h; simp only [putAll]; exact .nil
  | t :: l, _, m, h, ho => by
    simp only [okAllT, Bool.and_eq_true] at ho
    cases h with
    | cons _ u _ l' h x =>
      simp only [putAll]
      exact .cons _ _ _ _ (Par.put hs hsr m h ho.1) (ParAll.put hs hsr m x ho.2)
end
/-- What is no redex keeps its node. -/
theorem Par.keeps {k i : Int} {T : Ty} {l : List Tm} {u : Tm} (h : Par (.mk k i T l) u) (hk : ¬ headKind k) : ∃ m, u = .mk k i T m ∧ ParAll l m := by
  cases h with
  | node _ _ _ _ m h => exact ⟨m, rfl, h⟩
  | red _ _ _ _ m u h r => exact (hk r.head).elim
theorem parAll_two {a b : Tm} {m : List Tm} (h : ParAll [a, b] m) : ∃ x y, m = [x, y] ∧ Par a x ∧ Par b y := by
  cases h with | cons _ x _ _ h r => cases r with | cons _ y _ _ h' r => cases r; exact ⟨x, y, rfl, h, h'⟩
theorem parAll_one {a : Tm} {m : List Tm} (h : ParAll [a] m) : ∃ x, m = [x] ∧ Par a x := by
  cases h with | cons _ x _ _ h r => cases r; exact ⟨x, rfl, h⟩
theorem parAll_three {a b c : Tm} {m : List Tm} (h : ParAll [a, b, c] m) : ∃ x y z, m = [x, y, z] ∧ Par a x ∧ Par b y ∧ Par c z := by
  cases h with | cons _ x _ _ h r => obtain ⟨y, z, rfl, h1, h2⟩ := parAll_two r; exact ⟨x, y, z, rfl, h, h1, h2⟩
theorem par_app {f a f' a' : Tm} (h : Par f f') (h' : Par a a') : Par (.mk 3 0 .zero [f, a]) (.mk 3 0 .zero [f', a']) :=
  .node _ _ _ _ _ (.cons _ _ _ _ h (.cons _ _ _ _ h' .nil))
theorem par_three {k i : Int} {T : Ty} {a b c a' b' c' : Tm} (h : Par a a') (h' : Par b b') (h'' : Par c c') : Par (.mk k i T [a, b, c]) (.mk k i T [a', b', c']) :=
  .node _ _ _ _ _ (.cons _ _ _ _ h (.cons _ _ _ _ h' (.cons _ _ _ _ h'' .nil)))
/-- A redex whose parts go on is one still, and what it becomes goes on. -/
theorem Red.par {k i : Int} {T : Ty} {m m' : List Tm} {u : Tm} (h : Red (.mk k i T m) u) (ho : (Tm.mk k i T m).ok = true) (hp : ParAll m m') : ∃ u', Red (.mk k i T m') u' ∧ Par u u' := by
  cases h with
  | app _ _ j U b a =>
    obtain ⟨x, a', rfl, h1, h2⟩ := parAll_two hp
    obtain ⟨z, rfl, k3⟩ := h1.keeps (by unfold headKind; omega)
    obtain ⟨b', rfl, h4⟩ := parAll_one k3
    exact ⟨_, .app _ _ _ _ _ _, Par.put (ok_arg ho (by simp)) h2 0 h4 (ok_arg (ok_arg ho (a := .mk 2 j U [b]) (by simp)) (by simp))⟩
  | zero _ _ _ f j U =>
    obtain ⟨b', f', z, rfl, h1, h2, h3⟩ := parAll_three hp
    obtain ⟨z, rfl, k3⟩ := h3.keeps (by unfold headKind; omega)
    cases k3
    exact ⟨_, .zero _ _ _ _ _ _, h1⟩
  | nil _ _ _ f j U =>
    obtain ⟨b', f', z, rfl, h1, h2, h3⟩ := parAll_three hp
    obtain ⟨z, rfl, k3⟩ := h3.keeps (by unfold headKind; omega)
    cases k3
    exact ⟨_, .nil _ _ _ _ _ _, h1⟩
  | succ _ _ b f j U n =>
    obtain ⟨b', f', z, rfl, h1, h2, h3⟩ := parAll_three hp
    obtain ⟨z, rfl, k3⟩ := h3.keeps (by unfold headKind; omega)
    obtain ⟨n', rfl, h4⟩ := parAll_one k3
    exact ⟨_, .succ _ _ _ _ _ _ _, par_app (par_app h2 h4) (par_three h1 h2 h4)⟩
  | cons _ _ b f j U x y =>
    obtain ⟨b', f', z, rfl, h1, h2, h3⟩ := parAll_three hp
    obtain ⟨z, rfl, k3⟩ := h3.keeps (by unfold headKind; omega)
    obtain ⟨x', y', rfl, h4, h5⟩ := parAll_two k3
    exact ⟨_, .cons _ _ _ _ _ _ _ _, par_app (par_app (par_app h2 h4) h5) (par_three h1 h2 h5)⟩
  | fst _ _ j U _ c =>
    obtain ⟨z, rfl, h1⟩ := parAll_one hp
    obtain ⟨z, rfl, k3⟩ := h1.keeps (by unfold headKind; omega)
    obtain ⟨x', y', rfl, h4, h5⟩ := parAll_two k3
    exact ⟨_, .fst _ _ _ _ _ _, h4⟩
  | snd _ _ j U a _ =>
    obtain ⟨z, rfl, h1⟩ := parAll_one hp
    obtain ⟨z, rfl, k3⟩ := h1.keeps (by unfold headKind; omega)
    obtain ⟨x', y', rfl, h4, h5⟩ := parAll_two k3
    exact ⟨_, .snd _ _ _ _ _ _, h5⟩
mutual
/-- All that a term becomes in one go becomes one and the same term. -/
theorem par_top : ∀ t : Tm, t.ok = true → ∃ s, ∀ u, Par t u → Par u s
  | .mk k i T l, ho => by
    obtain ⟨s, hs⟩ := parAll_top l (ok_parts ho)
    by_cases h : ∃ u, Red (.mk k i T s) u
    · obtain ⟨v, hv⟩ := h
      refine ⟨v, fun u hu => ?_⟩
      cases hu with
      | node _ _ _ _ m h => exact .red _ _ _ _ _ _ (hs _ h) hv
      | red _ _ _ _ m u h r =>
        obtain ⟨u', h1, h2⟩ := r.par (node_ok ho h.len (h.ok (ok_parts ho))) (hs _ h)
        rw [hv.one h1]
        exact h2
    · refine ⟨.mk k i T s, fun u hu => ?_⟩
      cases hu with
      | node _ _ _ _ m h => exact .node _ _ _ _ _ (hs _ h)
      | red _ _ _ _ m u h' r =>
        obtain ⟨u', h1, _⟩ := r.par (node_ok ho h'.len (h'.ok (ok_parts ho))) (hs _ h')
        exact (h ⟨u', h1⟩).elim
theorem parAll_top : ∀ l : List Tm, okAllT l = true → ∃ s, ∀ m, ParAll l m → ParAll m s
  | [], _ => ⟨[], fun m h => by cases h; exact .nil⟩
  | t :: l, ho => by
    simp only [okAllT, Bool.and_eq_true] at ho
    obtain ⟨s, hs⟩ := par_top t ho.1
    obtain ⟨r, hr⟩ := parAll_top l ho.2
    exact ⟨s :: r, fun m h => by cases h with | cons _ u _ m h h' => exact .cons _ _ _ _ (hs _ h) (hr _ h')⟩
end

/-- Any number of steps side by side. -/
inductive Pars : Tm → Tm → Prop
  | refl (t : Tm) : Pars t t
  | step {t u v : Tm} (h : Pars t u) (k : Par u v) : Pars t v
theorem Pars.ok {t u : Tm} (h : Pars t u) (ho : t.ok = true) : u.ok = true := by
  induction h with
  | refl => exact ho
  | step _ k ih => exact k.ok ih
theorem Pars.trans {t u v : Tm} (h : Pars t u) (k : Pars u v) : Pars t v := by
  induction k with
  | refl => exact h
  | step _ k ih => exact .step ih k
theorem Pars.strip {t u v : Tm} (ho : t.ok = true) (h : Par t u) (k : Pars t v) : ∃ w, Pars u w ∧ Par v w := by
  induction k with
  | refl => exact ⟨u, .refl u, h⟩
  | step k1 k2 ih =>
    obtain ⟨w, h1, h2⟩ := ih
    obtain ⟨s, hs⟩ := par_top _ (k1.ok ho)
    exact ⟨s, .step h1 (hs _ h2), hs _ k2⟩
/-- Terms come together again. -/
theorem Pars.meet {t u v : Tm} (ho : t.ok = true) (h : Pars t u) (k : Pars t v) : ∃ w, Pars u w ∧ Pars v w := by
  induction h with
  | refl => exact ⟨v, k, .refl v⟩
  | step h1 h2 ih =>
    obtain ⟨w, h3, h4⟩ := ih
    obtain ⟨x, h5, h6⟩ := Pars.strip (h1.ok ho) h2 h3
    exact ⟨x, h5, .step h4 h6⟩
mutual
theorem Par.normal : ∀ {t u : Tm}, Par t u → t.next = none → u = t
  | .mk k i T l, _, h, hn => by
    obtain ⟨h1, h2⟩ := next_parts hn
    cases h with
    | node _ _ _ _ m h => rw [ParAll.normal h h2]
    | red _ _ _ _ m u h r =>
      obtain rfl := ParAll.normal h h2
      have := r.redex
      rw [show (Tm.mk k i T m).redex = redexOf k m from rfl, h1] at this
      cases this
theorem ParAll.normal : ∀ {l m : List Tm}, ParAll l m → (∀ j (hj : j < l.length), l[j].next = none) → m = l
  | [], _, h, _ => by cases h; rfl
  | t :: l, _, h, hn => by
    cases h with
    | cons _ u _ m h r =>
      have h1 := Par.normal h (by have := hn 0 (by simp); simpa using this)
      have h2 := ParAll.normal r (fun j hj => by have := hn (j + 1) (by simpa using hj); simpa using this)
      rw [h1, h2]
end
theorem Pars.normal {t u : Tm} (h : Pars t u) (hn : t.next = none) : u = t := by
  induction h with
  | refl => rfl
  | step _ k ih => subst ih; exact k.normal hn
/-- There is one normal form at most. -/
theorem Pars.unique {t a b : Tm} (ho : t.ok = true) (ha : Pars t a) (hb : Pars t b) (na : a.next = none) (nb : b.next = none) : a = b := by
  obtain ⟨w, h1, h2⟩ := ha.meet ho hb
  rw [← h1.normal na, h2.normal nb]
theorem ParAll.set {l : List Tm} {j : Nat} {u : Tm} (hj : j < l.length) (h : Par l[j] u) : ParAll l (l.set j u) := by
  induction l generalizing j with
  | nil => simp at hj
  | cons t l ih =>
    cases j with
    | zero => exact .cons _ _ _ _ (by simpa using h) (ParAll.refl l)
    | succ j => exact .cons _ _ _ _ (Par.refl t) (ih (by simpa using hj) (by simpa using h))
theorem Deep.par {t u : Tm} (h : Deep t u) : Par t u := by
  induction h with
  | here h => rename_i t u; cases t with | mk k i T l => exact .red _ _ _ _ _ _ (ParAll.refl l) h
  | arg k i T l j hj u _ ih => exact .node _ _ _ _ _ (ParAll.set hj ih)
theorem Steps.pars {B : Nat} {K : Int → Bool} : ∀ {n : Nat} {t u : Tm}, Steps B K n t u → t.ok = true → Pars t u
  | 0, t, u, h, _ => by
    have e : t = u := h
    exact e ▸ .refl t
  | n + 1, t, u, h, ho => by
    obtain ⟨v, h1, _, h3, _⟩ := h
    exact .step (h1.pars ho) (next_deep v (h1.ok ho) h3).par
theorem iter_pars : ∀ {n : Nat} {t u : Tm}, t.iter n = some u → t.ok = true → Pars t u
  | 0, t, u, h, _ => by rw [Tm.iter] at h; cases h; exact .refl t
  | n + 1, t, u, h, ho => by
    rw [iter_snoc] at h
    cases hv : t.iter n with
    | none => rw [hv] at h; cases h
    | some v =>
      rw [hv, Option.bind_some] at h
      have hp := iter_pars hv ho
      exact .step hp (next_deep v (hp.ok ho) h).par
end Go.Proofs.YtdhidofmojaheaaDoor
namespace Go.Proofs.YtdhidofmojaheaaDoor
open Go.RowKit

/-- What inner comes to. -/
def InnerR (g : Nat) (S : Nat → Prop) (c : Int) (t : Tm) (w : World) (e : Ending) (w' : World) : Prop :=
  ∃ (u : Tm) (v' : Value) (b : Bool), e = .returned (.tuple #[v', .bool b]) ∧ Par t u ∧ u.size ≤ t.size + 4096 ∧ u.low (c + 4096) = true ∧ IsTm (fun b => (S b ∨ w.heap.size ≤ b) ∧ b < w'.heap.size) w' u v' ∧ Deck w' g ∧ Turn (· = g) w w'

/-- The result is stored. -/
theorem inner_end {g : Nat} {S : Nat → Prop} {c : Int} {t u : Tm} {w W : World} {x0 x1 x2 x3 x4 : Value} {b : Bool} (hS : ∀ b, S b → b < w.heap.size) (hd : Deck W g) (hg : g < w.heap.size) (ht : Turn (· = g) w W)
    (hp : Par t u) (hs : u.size ≤ t.size + 4096) (hl : u.low (c + 4096) = true) (hu : IsTm (fun b => (S b ∨ w.heap.size + 2 ≤ b) ∧ b < W.heap.size) W u (.agg #[x0, x1, x2, x3, x4])) :
    InnerR g S c t w (.returned (.tuple #[.agg #[x0, x1, x2, x3, x4], .bool b])) (((((W.setCell ⟨w.heap.size + 1, 0, none⟩ x0).setCell ⟨w.heap.size + 1, 1, none⟩ x1).setCell ⟨w.heap.size + 1, 2, none⟩ x2).setCell ⟨w.heap.size + 1, 3, none⟩ x3).setCell ⟨w.heap.size + 1, 4, none⟩ x4) := by
  have hg5 := only_set5 W (w.heap.size + 1) x0 x1 x2 x3 x4
  refine ⟨u, _, b, rfl, hp, hs, hl, IsTm.keep (fun b h => ⟨h.1.imp id (fun x => by omega), Nat.lt_of_lt_of_le h.2 hg5.size⟩) (fun p hp => World.cell?_of_block (hg5.block p.block hp.2 (fun e => ?_))) _ hu, hd.grown hg5 (fun k e => by cases e; omega), ?_⟩
  · have e' : p.block = w.heap.size + 1 := by simpa using e
    exact hp.1.elim (fun h => by have := hS _ h; omega) (fun h => by omega)
  · exact ht.local hg5 (by omega)

theorem par_low {t : Tm} {c : Int} (hr : t.redex = true) (ho : t.ok = true) (hc : 0 ≤ c) (hl : t.low c = true) (hs : t.size ≤ 4096) : t.becomes.low (c + 4096) = true :=
  low_mono (by omega) _ ((red_of ho hr).low hc hl)
theorem inner_node {k i : Int} {T : Ty} {l : List Tm} {j : Nat} {x : Tm} {c : Int} (hj : j < l.length) (hl : (Tm.mk k i T l).low c = true) (hp : Par l[j] x) (hs : x.size ≤ l[j].size + 4096) (hx : x.low (c + 4096) = true) :
    Par (.mk k i T l) (.mk k i T (l.set j x)) ∧ (Tm.mk k i T (l.set j x)).size ≤ (Tm.mk k i T l).size + 4096 ∧ (Tm.mk k i T (l.set j x)).low (c + 4096) = true := by
  refine ⟨.node _ _ _ _ _ (ParAll.set hj hp), ?_, ?_⟩
  · have h1 := sizeAllT_set l j x hj
    simp only [Tm.size]
    omega
  · rw [low_mk] at hl ⊢
    exact ⟨by omega, lowAll_set (lowAll_mono (by omega) _ hl.2) hx⟩

set_option maxRecDepth 100000 in
set_option maxHeartbeats 4000000 in
theorem inner_any (N : Nat) : ∀ (t : Tm) (v : Value) (S : Nat → Prop) (g : Nat) (c : Int) (w : World), t.size ≤ N → t.ok = true → t.size ≤ 300000 → t.low c = true → 0 ≤ c → c ≤ 536870912 → Tab w → g ≠ 0 → Deck w g → (∀ b, S b → b < w.heap.size) → (∀ b, S b → b ≠ g) → IsTm S w t v →
    Calls Tryd.prog 25 #[.pointer (some ⟨g, 0, none⟩), v] w (InnerR g S c t w) := by
  induction N with
  | zero =>
    intro t v S g c w hN
    exfalso
    have := sizeT_pos t
    omega
  | succ N ih =>
    rintro ⟨k, i, T, l⟩ v S g c w hN hok hsz hlow hc hc2 htab hga hd hS hSg hT
    obtain ⟨Bt, d0, A, a0, rfl, hty, hl⟩ := hT.mk_parts
    have IH := Lib.hid ih
    have hgl := hd.lt
    have HF := Lib.hid (And.intro hok (And.intro hlow hN))
    have HS := Lib.hid (And.intro hS hSg)
    have HTab := Lib.hid (And.intro htab hga)
    have HT := Lib.hid (And.intro hT (And.intro hty hl))
    have HD := Lib.hid hd
    have hlt := ok_few (T := T) (i := i) (k := k) (l := l) hok
    have hsl : (Tm.mk k i T l).size = 1 + sizeAllT l := by rw [Tm.size]
    have HSL := Lib.hid hsl
    clear ih hok hlow hN htab hga hd hS hSg hT hty hl hsl
    go_enter Tryd.func25, Tryd.ntmps25
    go_upto_region 1 with fail
    obtain ⟨W, hW, b2, z2, k0, k1⟩ := alloc2_facts w #[.int .i64 k, .int .i64 i, .int .i64 T.kind, .slice Bt T.args.length d0, .slice A l.length a0] #[.int .i64 0, .int .i64 0, .int .i64 0, .slice none 0 0, .slice none 0 0] 34 34
    rw [← hW]
    have D0 := Lib.hid (HD.out.call b2)
    have HB := Lib.hid (And.intro b2 z2)
    have HK := Lib.hid (And.intro k0 k1)
    have hzW := b2.size
    have TW := Lib.hid (show Turn (· = g) w W from Turn.call b2)
    have KEEP := Lib.hid fun (w' : World) (h : Turn (· = g) W w') (p : Addr) (hp : S p.block) => (World.cell?_of_block ((TW.out.trans h).block p.block (HS.out.1 _ hp) (HS.out.2 _ hp)) : w'.cell? p = w.cell? p)
    have A0 := Lib.hid fun (w' : World) (h : Turn (· = g) W w') => k0.turn h (by omega)
    have A1 := Lib.hid fun (w' : World) (h : Turn (· = g) W w') => k1.turn h (by omega)
    have AT := Lib.hid fun (w' : World) (h : Turn (· = g) W w') => HTab.out.1.turn (TW.out.trans h) (fun e => HTab.out.2 e.symm)
    have AM := Lib.hid fun (w' : World) (h : Turn (· = g) W w') => IsTm.keep (S' := S) (w' := w') (fun _ h => h) (KEEP.out w' h) _ HT.out.1
    have AL := Lib.hid fun (w' : World) (h : Turn (· = g) W w') => HT.out.2.2.keep (S' := S) (w' := w') (fun _ h => h) (KEEP.out w' h)
    have AY := Lib.hid fun (w' : World) (h : Turn (· = g) W w') => IsTy.keep (S' := S) (w' := w') (fun _ h => h) (KEEP.out w' h) _ HT.out.2.1
    obtain ⟨r0, r1, r2, r3, r4, _, _, _, _, _⟩ := k0.facts5
    clear hW b2 k0 k1
    go_wp2_with fail
    refine (redexTop_any (.mk k i T l) _ W HF.out.1 (by omega) (AT.out W (Turn.refl _ _)) (IsTm.keep (fun b h => Nat.lt_of_lt_of_le (HS.out.1 b h) hzW) (fun _ _ => rfl) _ (AM.out W (Turn.refl _ _)))).mono ?_
    rintro e w1 ⟨h1, h1'⟩
    obtain ⟨bb, er, rfl, hbe⟩ : ∃ (bb : Bool) (er : Int), e = .returned (.tuple #[.bool bb, .int .i64 er]) ∧ ((er = 0 ∧ (Tm.mk k i T l).size ≤ 4096 ∧ bb = (Tm.mk k i T l).redex) ∨ er = 4) := by
      rcases h1' with ⟨h, rfl⟩ | ⟨h, rfl⟩
      · exact ⟨_, _, rfl, .inl ⟨rfl, h, rfl⟩⟩
      · exact ⟨_, _, rfl, .inr rfl⟩
    have T1 := Lib.hid (show Turn (· = g) W w1 from Turn.call h1)
    have D1 := Lib.hid (D0.out.call h1)
    have HBE := Lib.hid hbe
    have hz1 := h1.size
    clear h1 h1' r0 r1 r2 r3 r4 hbe
    go_upto_region 2 with fail
    go_cut [6, 7, 28] from 14 to 28 (fun _ _ c wx => ∃ b : Bool, c = .bool b ∧ (b = true → (Tm.mk k i T l).size ≤ 4096 ∧ (Tm.mk k i T l).redex = true) ∧ Deck wx g ∧ Turn (· = g) W wx)
    case first =>
      rcases HBE.out with ⟨rfl, hs4, hbr⟩ | rfl
      · have HBR := Lib.hid (And.intro hs4 hbr)
        clear hs4 hbr
        cases bb with
        | false =>
          go_wp2_with fail
          go_meet
          exact ⟨false, rfl, fun h => (by cases h), D1.out, T1.out⟩
        | true =>
          go_wp2_with fail
          refine (next_any g 2 w1 (by omega) (by omega) D1.out).mono ?_
          rintro e w2 ⟨r, rfl, hr0, hr1, hd2, hg2⟩
          go_wp2_with fail
          go_meet
          exact ⟨_, rfl, fun _ => ⟨HBR.out.1, HBR.out.2.symm⟩, hd2, T1.out.trans (turn_of hg2)⟩
      · go_wp2_with fail
        go_meet
        exact ⟨false, rfl, fun h => (by cases h), D1.out, T1.out⟩
    case rest =>
      obtain ⟨b, rfl, hb, hdc, htc⟩ := hcut
      obtain ⟨w2, hw2⟩ : ∃ x, x = wc := ⟨_, rfl⟩
      subst hw2
      have HCU := Lib.hid (And.intro hb (And.intro hdc htc))
      clear hb hdc htc
      go_upto_if 28 with fail
      go_cut [8, 9] from 29 to 36 (fun _ _ wx => Deck wx g ∧ Turn (· = g) W wx)
      case first =>
        cases b with
        | false =>
          go_wp2_with fail
          go_meet
          exact HCU.out.2
        | true =>
          have HR := Lib.hid (HCU.out.1 rfl)
          obtain ⟨r0, r1, r2, r3, r4, _, _, _, _, _⟩ := (A0.out w2 HCU.out.2.2).facts5
          have hz2 := HCU.out.2.2.size
          go_wp2_with fail
          refine (contract_any (.mk k i T l) _ S w2 HF.out.1 HR.out.2 HR.out.1 (low_mono hc2 _ HF.out.2.1) (AT.out w2 HCU.out.2.2) (fun b h => by have := HS.out.1 b h; omega) (AM.out w2 HCU.out.2.2)).mono ?_
          rintro e w3 ⟨pk, pi, ptk, pB, pA, pn, pd, pm, pc, er, rfl, b3, h3⟩
          have hz3 := b3.size
          have T3 := Lib.hid (HCU.out.2.2.trans (Turn.call b3))
          have D3 := Lib.hid (HCU.out.2.1.call b3)
          clear b3 r0 r1 r2 r3 r4
          rcases h3 with ⟨rfl, hs3, hu3⟩ | ⟨rfl, hs3⟩
          · have HU := Lib.hid (And.intro hs3 hu3)
            clear hs3 hu3
            go_upto_region 4 with fail
            obtain ⟨b4, z4, k4⟩ := new_blk (Below.refl w3.heap.size w3) (Nat.le_refl _) #[.int .i64 pk, .int .i64 pi, .int .i64 ptk, .slice pB pn pd, .slice pA pm pc] 34
            generalize w3.alloc (Obj.cells #[.int .i64 pk, .int .i64 pi, .int .i64 ptk, .slice pB pn pd, .slice pA pm pc] 34) = W4 at b4 z4 k4 ⊢
            have T4 := Lib.hid (T3.out.trans (Turn.call b4))
            have D4 := Lib.hid (D3.out.call b4)
            have hz4 := b4.size
            have B4 := Lib.hid b4
            obtain ⟨r0, r1, r2, r3, r4, _, _, _, _, _⟩ := k4.facts5
            obtain ⟨_, _, _, _, _, f0, f1, f2, f3, f4⟩ := (A1.out W4 T4.out).facts5
            clear b4 k4
            go_wp2_with fail
            obtain ⟨y0, y1, y2, y3, y4⟩ := ((A1.out W4 T4.out).set5 (.int .i64 pk) (.int .i64 pi) (.int .i64 ptk) (.slice pB pn pd) (.slice pA pm pc)).cells5
            have hz2' := HB.out.2
            exact bodyPost_ret (v := .tuple #[.agg #[.int .i64 pk, .int .i64 pi, .int .i64 ptk, .slice pB pn pd, .slice pA pm pc], .bool true]) (by simp [results, Tryd.results25, go_sem, y0, y1, y2, y3, y4]) rfl
              (inner_end HS.out.1 D4.out hgl (TW.out.trans T4.out) (Deep.par (.here (red_of HF.out.1 HR.out.2))) (by have := HU.out.1; omega) (par_low HR.out.2 HF.out.1 hc HF.out.2.1 HR.out.1)
                (IsTm.keep (fun b h => ⟨h.1.imp id (fun x => by omega), Nat.lt_of_lt_of_le h.2 hz4⟩) (fun p hp => B4.out.cell hp.2) _ HU.out.2))
          · go_wp2_with fail
            go_meet
            exact ⟨D3.out.box _, T3.out.trans (Turn.alloc _ _)⟩
      case rest =>
        obtain ⟨hdc, htc⟩ := hcut
        obtain ⟨w4, hw4⟩ : ∃ x, x = wc := ⟨_, rfl⟩
        subst hw4
        have HCV := Lib.hid (And.intro hdc htc)
        clear hdc htc HCU
        obtain ⟨r0, r1, r2, r3, r4, _, _, _, _, _⟩ := (A0.out w4 HCV.out.2).facts5
        go_wp2_with fail
        refine (next_any g ((l.length : Int) + 1) w4 (by omega) (by omega) HCV.out.1).mono ?_
        rintro e w5 ⟨r, rfl, hr0, hr1, hd5, hg5⟩
        have T5 := Lib.hid (HCV.out.2.trans (turn_of hg5))
        have D5 := Lib.hid hd5
        clear hd5 hg5 r0 r1 r2 r3 r4
        go_wp2_with fail
        go_loopw [10] (fun ix wr => ∃ j : Nat, j ≤ l.length ∧ ix = .int .i64 j ∧ Deck wr g ∧ Turn (· = g) W wr) (fun ix _ => l.length - (intOf ix).toNat)
        case atStart => exact ⟨r.toNat, by omega, by rw [Int.toNat_of_nonneg hr0], D5.out, T5.out⟩
        case round =>
          obtain ⟨j, hj, rfl, hdr, htr⟩ := hrel
          have HDR := Lib.hid hdr
          have HTR := Lib.hid htr
          have hzr := htr.size
          have hz2' := HB.out.2
          clear hdr htr
          obtain ⟨r0, r1, r2, r3, r4, _, _, _, _, _⟩ := (A0.out wr HTR.out).facts5
          by_cases hjl : j < l.length
          · have hjd : decide ((j : Int) < (l.length : Int)) = true := decide_eq_true (by omega)
            obtain ⟨a, rfl, ha, hat⟩ := (AL.out wr HTR.out).get j hjl
            obtain ⟨B1, d1, A1', c1, q0, q1, q2, q3, q4, hx⟩ := at_tm hat
            change wr.cell? (a.add (j * 5)) = _ at q0
            simp only [show TmR.n = 5 from rfl] at q1 q2 q3 q4
            have HX := Lib.hid hx
            have hbj := sizeAllT_get l j hjl
            have hlj : l[j].low c = true := lowAll_get (low_mk.1 HF.out.2.1).2 j hjl
            have HLJ := Lib.hid hlj
            have hj0 : Int.toNat (j : Int) = j := by omega
            have hNj := HF.out.2.2
            have hSLJ := HSL.out
            clear hx hat hlj
            go_wp2_with fail
            refine (IH.out l[j] _ S g c wr (by omega) (ok_arg HF.out.1 (List.getElem_mem hjl)) (by omega) HLJ.out hc hc2 (AT.out wr HTR.out) HTab.out.2 HDR.out (fun b h => by have := HS.out.1 b h; omega) HS.out.2 HX.out).mono ?_
            rintro e w6 ⟨x, v', b, rfl, hp6, hs6, hl6, hu6, hd6, ht6⟩
            obtain ⟨B2, d2, A2, c2, rfl, _⟩ := IsTm.form hu6
            have hz6 := ht6.size
            have T6 := Lib.hid (HTR.out.trans ht6)
            have H6 := Lib.hid (And.intro hd6 hu6)
            have HN := Lib.hid (inner_node hjl HF.out.2.1 hp6 hs6 hl6)
            clear hp6 hs6 hl6 hu6 hd6 ht6 q0 q1 q2 q3 q4 r0 r1 r2 r3 r4 hSLJ hNj
            cases b with
            | false =>
              go_wp2_with fail
              go_roundw
              case rel => exact ⟨j + 1, by omega, by go_num, H6.out.1.box _, T6.out.trans (Turn.alloc _ _)⟩
              case measure => simp [intOf]; omega
            | true =>
              obtain ⟨r0, r1, r2, r3, r4, _, _, _, _, _⟩ := (A0.out w6 T6.out).facts5
              go_upto_region 11 with fail
              obtain ⟨b7, z7, k7⟩ := new_blk (Below.refl w6.heap.size w6) (Nat.le_refl _) #[.int .i64 x.kind, .int .i64 x.index, .int .i64 x.type.kind, .slice B2 x.type.args.length d2, .slice A2 x.args.length c2] 34
              generalize w6.alloc (Obj.cells #[.int .i64 x.kind, .int .i64 x.index, .int .i64 x.type.kind, .slice B2 x.type.args.length d2, .slice A2 x.args.length c2] 34) = W7 at b7 z7 k7 ⊢
              have T7 := Lib.hid (T6.out.trans (Turn.call b7))
              have K7 := Lib.hid (And.intro k7 b7)
              have hz7 : w6.heap.size < W7.heap.size := by omega
              clear r0 r1 r2 r3 r4 b7 k7 z7
              obtain ⟨r0, r1, r2, r3, r4, _, _, _, _, _⟩ := (A0.out W7 T7.out).facts5
              go_upto_region 12 with fail
              obtain ⟨b8, z8, k8⟩ := new_blk (Below.refl W7.heap.size W7) (Nat.le_refl _) #[.int .i64 k, .int .i64 i, .int .i64 T.kind, .slice Bt T.args.length d0, .slice (some a) l.length a0] 34
              generalize W7.alloc (Obj.cells #[.int .i64 k, .int .i64 i, .int .i64 T.kind, .slice Bt T.args.length d0, .slice (some a) l.length a0] 34) = W8 at b8 z8 k8 ⊢
              have T8 := Lib.hid (T7.out.trans (Turn.call b8))
              have B68 := Lib.hid (K7.out.2.trans (b8.mono (by omega)))
              have K8 := Lib.hid k8
              have X8 := Lib.hid (K7.out.1.below b8 K7.out.1.lt)
              have D8 := Lib.hid (H6.out.1.call B68.out)
              have hz8 : W7.heap.size < W8.heap.size := by omega
              clear r0 r1 r2 r3 r4 b8 k8 z8
              obtain ⟨r0, r1, r2, r3, r4, _, _, _, _, _⟩ := (A0.out W8 T8.out).facts5
              obtain ⟨news, hch, hnc⟩ := sl_cells (AL.out W8 T8.out)
              obtain ⟨i0, hi, hiz0, hiz1, hiz2⟩ := info_parts info_term
              have HNC := Lib.hid hnc
              have HCH := Lib.hid hch
              have hno := hch.oneCells
              have hnl : news.length = l.length * 5 := hch.1
              have hown0 : W8.ownsRow W8.heap.size 34 5 (.slice none 0 0) 0 [] := World.ownsRow_nil W8 _ _ _
              clear hch hnc
              go_upto_region 13 with (at_builtin; (refine wpList_append_own_at _ rfl _ _ 32 rfl W8.heap.size 34 i0 _ 5 72 Tryd.underlying32 hi hiz0 hiz1 hiz2 rfl (by decide) (.slice none 0 0) 0 [] rfl hown0 a l.length a0 news rfl hnl HNC.out hno (by simp only [maxLen]; omega) (by omega) (Nat.le_refl _) ?_)
                                      intro v9 w9 hown9 hg9 hnil9 hat9
                                      have b9 : Below W8.heap.size W8 w9 := ⟨hg9.os, hg9.tape, hg9.output, hg9.size, fun q hq => hg9.block q hq (by simp [Value.ownBlock])⟩
                                      have ho9 : TmR.Own (fun b => S b ∨ (w.heap.size + 2 ≤ b ∧ b < w6.heap.size)) W8.heap.size v9 ([] ++ l) w9 := Rep.Own.more (R := TmR) (xs := []) hown0 (Rep.Ch.nil _ _) (HCH.out.keep (fun b hb => ⟨.inl hb, by have := HS.out.1 b hb; omega, by simp [Value.ownBlock]⟩) (fun _ _ => rfl)) hown9 hg9 hat9
                                      rw [List.nil_append] at ho9
                                      obtain ⟨A9, c9, rfl⟩ := ho9.form
                                      have HO9 := Lib.hid ho9
                                      have B9 := Lib.hid b9
                                      have hz9 := b9.size
                                      have k89 := K8.out.below b9 K8.out.lt
                                      obtain ⟨_, _, _, _, _, _, _, _, _, g4⟩ := k89.facts5
                                      have K10 := Lib.hid (show Blk (w9.setCell ⟨W7.heap.size, 4, none⟩ (.slice A9 l.length c9)) W7.heap.size 34 #[.int .i64 k, .int .i64 i, .int .i64 T.kind, .slice Bt T.args.length d0, .slice A9 l.length c9] by simpa using k89.set_ 4 (.slice A9 l.length c9))
                                      clear hown9 hg9 hnil9 hat9 b9 ho9 k89)
              have hg10 := only_setCell (only_refl w9 (some W7.heap.size)) (p := ⟨W7.heap.size, 4, none⟩) (.inl rfl) (.slice A9 l.length c9)
              have hown10 := HO9.out.far hg10 hz8 (fun h => h.elim (fun h => by have := HS.out.1 _ h; omega) (fun h => by omega))
              have T9 := Lib.hid (T8.out.trans (Turn.call B9.out))
              have X10 := Lib.hid ((X8.out.below B9.out X8.out.lt).grown hg10 (by simp; omega))
              have D10 := Lib.hid ((D8.out.call B9.out).grown hg10 (fun k e => by cases e; omega))
              have T10 := Lib.hid (T9.out.local hg10 (by omega))
              have hz10 := hg10.size
              have U10 : IsTm (fun b => (S b ∨ wr.heap.size ≤ b) ∧ b < w6.heap.size) (w9.setCell ⟨W7.heap.size, 4, none⟩ (.slice A9 l.length c9)) x (.agg #[.int .i64 x.kind, .int .i64 x.index, .int .i64 x.type.kind, .slice B2 x.type.args.length d2, .slice A2 x.args.length c2]) :=
                IsTm.keep (fun _ h => h) (fun p hp => (World.cell?_of_block (hg10.block p.block (by have := hp.2; omega) (by have := hp.2; simp; omega))).trans ((B9.out.cell (by have := hp.2; omega)).trans (B68.out.cell hp.2))) _ H6.out.2
              have HU10 := Lib.hid U10
              clear hg10 U10 r0 r1 r2 r3 r4
              generalize w9.setCell ⟨W7.heap.size, 4, none⟩ (.slice A9 l.length c9) = W10 at K10 hown10 X10 D10 T10 hz10 HU10 ⊢
              obtain ⟨xs, hxo, hxc⟩ := hown10
              obtain ⟨q, cap, hv, hq0, hq1⟩ := hxo.form (by omega)
              simp only [Value.slice.injEq] at hv
              obtain ⟨rfl, _, rfl⟩ := hv
              obtain ⟨⟨u0, h0⟩, f0⟩ := row_cells hxo hjl (j * 5) (by omega) (by omega)
              obtain ⟨⟨u1, h1⟩, f1⟩ := row_cells hxo hjl (j * 5 + 1) (by omega) (by omega)
              obtain ⟨⟨u2, h2⟩, f2⟩ := row_cells hxo hjl (j * 5 + 2) (by omega) (by omega)
              obtain ⟨⟨u3, h3⟩, f3⟩ := row_cells hxo hjl (j * 5 + 3) (by omega) (by omega)
              obtain ⟨⟨u4, h4⟩, f4⟩ := row_cells hxo hjl (j * 5 + 4) (by omega) (by omega)
              obtain ⟨r0, r1, r2, r3, r4, _, _, _, _, _⟩ := K10.out.facts5
              obtain ⟨p0, p1, p2, p3, p4, _, _, _, _, _⟩ := X10.out.facts5
              have hqw : W8.heap.size ≤ q := hq0
              have hU2 : IsTm (fun b => (S b ∨ (w.heap.size + 2 ≤ b ∧ b < w6.heap.size)) ∧ b < W10.heap.size ∧ q ≠ b) W10 x (.agg #[.int .i64 x.kind, .int .i64 x.index, .int .i64 x.type.kind, .slice B2 x.type.args.length d2, .slice A2 x.args.length c2]) :=
                IsTm.keep (fun b h => ⟨h.1.elim .inl (fun h' => .inr ⟨by omega, h.2⟩), by have := h.2; omega, by have := h.2; omega⟩) (fun _ _ => rfl) _ HU10.out
              have AFTER := Lib.hid (row_set5 (S := fun b => S b ∨ (w.heap.size + 2 ≤ b ∧ b < w6.heap.size)) (base := W8.heap.size) (g := q) (cap := c9) (j := j) (w := W10) (l := l) (U := x) (xs := xs) hjl hxo hxc hU2)
              have hjj : (j : Int) < (l.length : Int) := by omega
              clear hxo hxc hU2
              go_upto_region 14 with fail
              obtain ⟨hown11, hg11⟩ := AFTER.out
              have K11 := K10.out.grown hg11 (by simp; omega)
              have D11 := Lib.hid (D10.out.grown hg11 (fun k e => by cases e; omega))
              have T11 := Lib.hid (T10.out.local hg11 (by omega))
              have hz11 := hg11.size
              clear r0 r1 r2 r3 r4 p0 p1 p2 p3 p4 h0 h1 h2 h3 h4 f0 f1 f2 f3 f4 hg11
              generalize ((((W10.setCell ⟨q, j * 5, none⟩ (.int .i64 x.kind)).setCell ⟨q, j * 5 + 1, none⟩ (.int .i64 x.index)).setCell ⟨q, j * 5 + 2, none⟩ (.int .i64 x.type.kind)).setCell ⟨q, j * 5 + 3, none⟩ (.slice B2 x.type.args.length d2)).setCell ⟨q, j * 5 + 4, none⟩ (.slice A2 x.args.length c2) = W11 at hown11 K11 D11 T11 hz11 ⊢
              obtain ⟨r0, r1, r2, r3, r4, _, _, _, _, _⟩ := K11.facts5
              obtain ⟨_, _, _, _, _, f0, f1, f2, f3, f4⟩ := (A1.out W11 T11.out).facts5
              have HO11 := Lib.hid hown11
              clear hown11 AFTER
              go_wp2_with fail
              obtain ⟨y0, y1, y2, y3, y4⟩ := ((A1.out W11 T11.out).set5 (.int .i64 k) (.int .i64 i) (.int .i64 T.kind) (.slice Bt T.args.length d0) (.slice (some ⟨q, 0, none⟩) l.length c9)).cells5
              refine bodyPost_ret (v := .tuple #[.agg #[.int .i64 k, .int .i64 i, .int .i64 T.kind, .slice Bt T.args.length d0, .slice (some ⟨q, 0, none⟩) l.length c9], .bool true]) (by simp [results, Tryd.results25, go_sem, y0, y1, y2, y3, y4]) rfl
                (inner_end HS.out.1 D11.out hgl (TW.out.trans T11.out) HN.out.1 HN.out.2.1 HN.out.2.2 (isTm_iff.2 ⟨rfl, rfl, IsTy.keep (fun b h => ⟨.inl h, by have := HS.out.1 b h; omega⟩) (fun _ _ => rfl) _ (AY.out W11 T11.out), ?_⟩))
              have h := HO11.out.sl
              exact h.keep (fun b h => ⟨h.1.elim (fun h => h.elim .inl (fun h => .inr h.1)) (fun h => .inr (by omega)), h.2⟩) (fun _ _ => rfl)
          · have hjd : decide ((j : Int) < (l.length : Int)) = false := decide_eq_false (by omega)
            obtain ⟨_, _, _, _, _, f0, f1, f2, f3, f4⟩ := (A1.out wr HTR.out).facts5
            go_wp2_with fail
            obtain ⟨y0, y1, y2, y3, y4⟩ := ((A1.out wr HTR.out).set5 (.int .i64 k) (.int .i64 i) (.int .i64 T.kind) (.slice Bt T.args.length d0) (.slice A l.length a0)).cells5
            exact bodyPost_ret (v := .tuple #[.agg #[.int .i64 k, .int .i64 i, .int .i64 T.kind, .slice Bt T.args.length d0, .slice A l.length a0], .bool false]) (by simp [results, Tryd.results25, go_sem, y0, y1, y2, y3, y4]) rfl
              (inner_end HS.out.1 HDR.out hgl (TW.out.trans HTR.out) (Par.refl _) (by omega) (low_mono (by omega) _ HF.out.2.1)
                (IsTm.keep (fun b h => ⟨.inl h, by have := HS.out.1 b h; omega⟩) (fun _ _ => rfl) _ (AM.out wr HTR.out)))
end Go.Proofs.YtdhidofmojaheaaDoor
namespace Go.Proofs.YtdhidofmojaheaaDoor
open Go.RowKit

theorem bd_small3 (t : Ty) : bdN 3 t ≤ 276 := bdN3 t

/-- What Normal comes to, for any term. -/
def NOut (lim : Nat) (t : Tm) (w : World) (e : Ending) (w' : World) : Prop :=
  Below w.heap.size w w' ∧ ∃ (k i tk : Int) (B A : Option Addr) (n d m c s : Nat) (er : Int), e = .returned (.tuple #[.agg #[.int .i64 k, .int .i64 i, .int .i64 tk, .slice B n d, .slice A m c], .int .i64 s, .int .i64 er]) ∧
    ((er = 0 ∧ t.size ≤ 4096 ∧ ∃ a, NF lim t a ∧ IsTm (· < w'.heap.size) w' a (.agg #[.int .i64 k, .int .i64 i, .int .i64 tk, .slice B n d, .slice A m c])) ∨ er = 4 ∨ er = 5)
theorem normal_all (t : Tm) (v : Value) (lim : Nat) (w : World) (hok : t.ok = true) (hsz : t.size ≤ 300000) (hlow : t.low 1000000 = true) (hlim : lim ≤ 1000) (htab : Tab w) (hT : IsTm (· < w.heap.size) w t v) :
    Calls Tryd.prog 18 #[v, .int .i64 lim] w (NOut lim t w) := by
  by_cases hs : t.size ≤ 4096
  · have hbk := ok_bulk hok
    refine (normal_any t v (· < w.heap.size) lim w (by omega) (errT_zero.2 ⟨hok, hs⟩) hlow hlim htab (fun _ h => h) hT).mono ?_
    rintro e w' ⟨hb, ⟨u, m, v', rfl, hu, hE⟩ | ⟨u, m, er, her, rfl, hE⟩⟩
    · obtain ⟨B, d, A, c, rfl, _⟩ := IsTm.form hu
      exact ⟨hb, _, _, _, _, _, _, _, _, _, _, _, rfl, .inl ⟨rfl, hs, u, ⟨m, hE⟩, IsTm.keep (fun b h => h.2) (fun _ _ => rfl) _ hu⟩⟩
    · exact ⟨hb, 0, 0, 0, none, none, 0, 0, 0, 0, 0, er, rfl, .inr her⟩
  · refine (normal_large t v lim w hok (by omega) (by omega) htab hT).mono ?_
    rintro e w' ⟨rfl, hb⟩
    exact ⟨hb, 0, 0, 0, none, none, 0, 0, 0, 0, 0, 4, rfl, .inr (.inl rfl)⟩

/-- Both have a normal form: it is the same one, and they match. -/
theorem unique_match {X Y a b : Tm} {lim : Nat} {er : Int} (ho : X.ok = true) (hp : Pars X Y) (ha : NF lim X a) (hb : NF lim Y b) : a = b ∧ (MatchOut lim X Y er → er = 0) := by
  obtain ⟨n, hn⟩ := id ha
  obtain ⟨m, hm⟩ := id hb
  have e : a = b := Pars.unique ho (hn.1.pars ho) (hp.trans (hm.1.pars (hp.ok ho))) (nf_done hn) (nf_done hm)
  refine ⟨e, fun h => ?_⟩
  subst e
  rcases h with ⟨_, h⟩ | ⟨_, h | ⟨x, hx, h | ⟨y, hy, ⟨_, h⟩ | ⟨h, _⟩⟩⟩⟩
  · exact h
  · exact (ha.not_bad h).elim
  · exact (hb.not_bad h).elim
  · exact h
  · exact (h ((hx.same ha).trans (hy.same hb).symm)).elim
theorem NF.facts {lim : Nat} {t a : Tm} (h : NF lim t a) (ho : t.ok = true) (hs : t.size ≤ 4096) : a.bulk ≤ 390000 := by
  obtain ⟨n, hn⟩ := h
  have h1 := hn.1.ok ho
  have h2 := hn.1.size (by omega : 0 + t.size ≤ 4096)
  have := ok_bulk h1
  omega

/-- How the loop stands. -/
def UniqueAt (g lo p q j : Nat) (X : Tm) (cs : Array Value) (w wr : World) : Prop :=
  ∃ (Y : Tm) (B A : Option Addr) (e c : Nat), Pars X Y ∧ Y.size ≤ 276 + 4096 * j ∧ Y.low (1000 + 4096 * j) = true ∧ Blk wr p 34 cs ∧
    Blk wr q 34 #[.int .i64 Y.kind, .int .i64 Y.index, .int .i64 Y.type.kind, .slice B Y.type.args.length e, .slice A Y.args.length c] ∧ IsTm (fun b => (lo ≤ b ∧ b ≠ q) ∧ b < wr.heap.size) wr Y (.agg #[.int .i64 Y.kind, .int .i64 Y.index, .int .i64 Y.type.kind, .slice B Y.type.args.length e, .slice A Y.args.length c]) ∧ Deck wr g ∧ Turn (fun k => k = g ∨ k = q) w wr

set_option maxRecDepth 100000 in
set_option maxHeartbeats 8000000 in
theorem uniqueLaw_small (A : Option Addr) (len cap : Nat) (w : World) (htab : Tab w) (hlen : len ≤ 500) (hA : ∀ i, i < len → ∃ a x, A = some a ∧ a.block < w.heap.size ∧ w.cell? (a.add i) = some (.int .i64 x)) :
    Calls Tryd.prog 6 #[.slice A len cap] w fun e w' => e = .returned (.bool true) ∧ Below w.heap.size w w' := by
  have hA' := Lib.hid hA
  have HTab := Lib.hid htab
  clear hA htab
  have e500 : decide ((len : Int) ≤ 500) = true := by simp; omega
  go_enter Tryd.func6, Tryd.ntmps6
  go_wp2_with fail
  refine (saneR_any w HTab.out).mono ?_
  rintro e w1 ⟨rfl, hb1⟩
  go_wp2_with fail
  refine (few_any A len cap w1 (by simp only [maxLen]; omega)).mono ?_
  rintro e w1' ⟨rfl, rfl⟩
  rw [e500]
  go_wp2_with fail
  have hA1 : ∀ i, i < len → ∃ a x, A = some a ∧ a.block < w1.heap.size ∧ w1.cell? (a.add i) = some (.int .i64 x) := fun i hi => by
    obtain ⟨a, x, h1, h2, h3⟩ := hA'.out i hi
    exact ⟨a, x, h1, Nat.lt_of_lt_of_le h2 hb1.size, (hb1.cell (by rw [add_block]; exact h2)).trans h3⟩
  refine (new_any A len cap w1 hlen hA1).mono ?_
  rintro e w2 ⟨rfl, hw2⟩
  have hd2 := new_deck A len cap w1 hlen hA1
  rw [hw2] at hd2
  have b_w2 : Below w.heap.size w w2 := by rw [← hw2]; exact hb1.alloc hb1.size _
  have hgw : w.heap.size ≤ w1.heap.size := hb1.size
  clear hw2 hA1 hb1
  generalize w1.heap.size = gg at hd2 hgw ⊢
  have z_w2 := hd2.lt
  have HD2 := Lib.hid hd2
  clear hd2
  go_wp2_with fail
  refine (mkContext_any gg w2 HD2.out).mono ?_
  rintro e w3 ⟨G, v, rfl, hG3, hGok, hGs, hGf, hGnil, hd3, hg3⟩
  obtain ⟨A3, c3, rfl⟩ := hGs.form
  have HD3 := Lib.hid hd3
  have HC3 := Lib.hid (show Ctx gg w3 G (.slice A3 G.length c3) from ⟨hGs.keep (fun b hb => ⟨by have := hb.1; omega, hb.2⟩) (fun _ _ => rfl), hGf, hGok⟩)
  have HGN := Lib.hid hGnil
  have HGO := Lib.hid hGok
  have s_w3 := turn_of hg3
  have b_w3 : Below w.heap.size w w3 := b_w2.trans (s_w3.toBelow (fun k hk e => by omega) b_w2.size)
  clear s_w3 b_w2 
  have z_w3 : gg < w3.heap.size := HD3.out.lt
  have m_w3_w3 := tRf gg w3
  clear hg3 hd3 hGs hGf hGnil hGok
  go_wp2_with fail
  refine (type_any 1 1 gg w3 (by omega) (by omega) (by omega) HD3.out).mono ?_
  rintro e w4 ⟨S, x4, rfl, okS, szS, tyS, hd4, hg4⟩
  obtain ⟨A4, c4, rfl⟩ := tyS.form
  have nS := type_three szS
  have HS := Lib.hid (And.intro okS (Typ.of tyS z_w3))
  have D_w4 := Lib.hid hd4
  have s_w4 := turn_of hg4
  have b_w4 : Below w.heap.size w w4 := b_w3.trans (s_w4.toBelow (fun k hk e => by omega) b_w3.size)
  have m_w3_w4 := m_w3_w3.trans s_w4
  clear s_w4 b_w3 m_w3_w3
  have z_w4 : gg < w4.heap.size := D_w4.out.lt
  have m_w4_w4 := tRf gg w4
  clear tyS hd4 hg4 okS szS
  go_wp2_with fail
  refine (term_any gg (4 * 3 + S.nodes + 1) G S 3 _ _ w4 (by simp) (by omega) (by omega) (by simp; omega) HS.out.1 nS (Ctx.turn HC3.out m_w3_w4) (Typ.turn HS.out.2 m_w4_w4) D_w4.out).mono ?_
  rintro e w5 ⟨X, v5, rfl, mX, tX, hd5, ht5⟩
  obtain ⟨B5, e5, A5, c5, rfl, _⟩ := IsTm.form tX
  have sX : X.size ≤ 276 := Nat.le_trans mX.size (bd_small3 S)
  have HMX := Lib.hid mX
  have bX : X.bulk ≤ 12000 := mX.bulk_le (bdN_le _ (by simp))
  have HTX := Lib.hid (show Trm w4.heap.size w5 X _ from tX)
  have D_w5 := Lib.hid hd5
  have s_w5 := ht5
  have b_w5 : Below w.heap.size w w5 := b_w4.trans (s_w5.toBelow (fun k hk e => by omega) b_w4.size)
  have m_w3_w5 := m_w3_w4.trans s_w5
  have m_w4_w5 := m_w4_w4.trans s_w5
  clear s_w5 b_w4 m_w3_w4 m_w4_w4
  have z_w5 : gg < w5.heap.size := D_w5.out.lt
  have m_w5_w5 := tRf gg w5
  clear tX hd5 ht5 mX
  have hgw' : w.heap.size ≤ gg := hgw
  have hlX : X.low 1000 = true := low_mono (by have := sX; simp; omega) X (typ_low X G HMX.out.ok HMX.out.typ)
  have HLX := Lib.hid hlX
  have BW := Lib.hid b_w5
  have hz45 : w4.heap.size ≤ w5.heap.size := m_w4_w5.size
  clear hlX b_w5 m_w3_w5 m_w4_w5 m_w5_w5
  go_upto_region 8 with fail
  obtain ⟨b6, z6, k6⟩ := new_blk (Below.refl w5.heap.size w5) (Nat.le_refl _) #[.int .i64 X.kind, .int .i64 X.index, .int .i64 X.type.kind, .slice B5 X.type.args.length e5, .slice A5 X.args.length c5] 34
  generalize w5.alloc (Obj.cells #[.int .i64 X.kind, .int .i64 X.index, .int .i64 X.type.kind, .slice B5 X.type.args.length e5, .slice A5 X.args.length c5] 34) = W6 at b6 z6 k6 ⊢
  obtain ⟨r0, r1, r2, r3, r4, _, _, _, _, _⟩ := k6.facts5
  have H6 := Lib.hid (And.intro b6 k6)
  clear b6 k6
  go_upto_region 9 with fail
  obtain ⟨b7, z7, k7⟩ := new_blk (Below.refl W6.heap.size W6) (Nat.le_refl _) #[.int .i64 X.kind, .int .i64 X.index, .int .i64 X.type.kind, .slice B5 X.type.args.length e5, .slice A5 X.args.length c5] 34
  generalize W6.alloc (Obj.cells #[.int .i64 X.kind, .int .i64 X.index, .int .i64 X.type.kind, .slice B5 X.type.args.length e5, .slice A5 X.args.length c5] 34) = W7 at b7 z7 k7 ⊢
  rw [z6] at k7
  have b57 := H6.out.1.trans (b7.mono H6.out.1.size)
  have hz7 : W7.heap.size = w5.heap.size + 2 := by omega
  have HL := Lib.hid (show UniqueAt gg w4.heap.size w5.heap.size (w5.heap.size + 1) 0 X #[.int .i64 X.kind, .int .i64 X.index, .int .i64 X.type.kind, .slice B5 X.type.args.length e5, .slice A5 X.args.length c5] W7 W7 from ⟨X, B5, A5, e5, c5, .refl X, by omega, HLX.out, H6.out.2.below b7 H6.out.2.lt, k7, IsTm.keep (fun b h => ⟨⟨h.1, by have := h.2; omega⟩, by have := h.2; omega⟩) (fun p hp => b57.cell hp.2) _ HTX.out, D_w5.out.call b57, Turn.refl _ _⟩)
  have B7 := Lib.hid (BW.out.trans (b57.mono BW.out.size))
  have X7 := Lib.hid (show Trm w4.heap.size W7 X _ from IsTm.keep (fun b h => ⟨h.1, Nat.lt_of_lt_of_le h.2 b57.size⟩) (fun p hp => b57.cell hp.2) _ HTX.out)
  have X5 := Lib.hid (show IsTm (fun b => w4.heap.size ≤ b ∧ b < w5.heap.size) W7 X _ from IsTm.keep (fun b h => h) (fun p hp => b57.cell hp.2) _ HTX.out)
  have hat : 0 < w.heap.size := HTab.out.lt
  have T7 := Lib.hid (HTab.out.after B7.out)
  clear r0 r1 r2 r3 r4 b7 k7 b57 z6 z7
  go_wp2_with fail
  go_loopw [29] (fun ix wr => ∃ j : Nat, j ≤ 5 ∧ ix = .int .i64 j ∧ UniqueAt gg w4.heap.size w5.heap.size (w5.heap.size + 1) j X #[.int .i64 X.kind, .int .i64 X.index, .int .i64 X.type.kind, .slice B5 X.type.args.length e5, .slice A5 X.args.length c5] W7 wr) (fun ix _ => 5 - (intOf ix).toNat)
  case atStart => exact ⟨0, by omega, rfl, HL.out⟩
  case round =>
    obtain ⟨j, hj, rfl, Y, B1, A1, e1, c1, hp, hs, hl, kp, kq, ty, hd, ht⟩ := hrel
    have HP := Lib.hid (And.intro hp (And.intro (hp.ok HMX.out.ok) hl))
    have HK := Lib.hid (And.intro kp kq)
    have HY := Lib.hid ty
    have HDR := Lib.hid hd
    have HTR := Lib.hid ht
    have hzr := ht.size
    have TR := Lib.hid (T7.out.turn ht (by omega))
    clear hp hl kp kq ty hd ht
    by_cases h5 : j < 5
    · have e5j : decide ((j : Int) < 5) = true := decide_eq_true (by omega)
      obtain ⟨r0, r1, r2, r3, r4, g0, g1, g2, g3, g4⟩ := HK.out.2.facts5
      go_wp2_with fail
      refine (inner_any Y.size Y _ (fun b => (w4.heap.size ≤ b ∧ b ≠ w5.heap.size + 1) ∧ b < wr.heap.size) gg (1000 + 4096 * j) wr (Nat.le_refl _) HP.out.2.1 (by omega) HP.out.2.2 (by omega) (by omega) TR.out (by omega) HDR.out (fun b h => h.2) (fun b h => by have := h.1.1; omega) HY.out).mono ?_
      rintro e w8 ⟨u, v', bb, rfl, hp8, hs8, hl8, hu8, hd8, ht8⟩
      obtain ⟨B2, e2, A2, c2, rfl, _⟩ := IsTm.form hu8
      have hz8 := ht8.size
      have kq8 := HK.out.2.turn ht8 (by omega)
      have kp8 := HK.out.1.turn ht8 (by omega)
      clear r0 r1 r2 r3 r4 g0 g1 g2 g3 g4
      obtain ⟨r0, r1, r2, r3, r4, g0, g1, g2, g3, g4⟩ := kq8.facts5
      have hg5 := only_set5 w8 (w5.heap.size + 1) (.int .i64 u.kind) (.int .i64 u.index) (.int .i64 u.type.kind) (.slice B2 u.type.args.length e2) (.slice A2 u.args.length c2)
      have hUA : UniqueAt gg w4.heap.size w5.heap.size (w5.heap.size + 1) (j + 1) X #[.int .i64 X.kind, .int .i64 X.index, .int .i64 X.type.kind, .slice B5 X.type.args.length e5, .slice A5 X.args.length c5] W7 (((((w8.setCell ⟨w5.heap.size + 1, 0, none⟩ (.int .i64 u.kind)).setCell ⟨w5.heap.size + 1, 1, none⟩ (.int .i64 u.index)).setCell ⟨w5.heap.size + 1, 2, none⟩ (.int .i64 u.type.kind)).setCell ⟨w5.heap.size + 1, 3, none⟩ (.slice B2 u.type.args.length e2)).setCell ⟨w5.heap.size + 1, 4, none⟩ (.slice A2 u.args.length c2)) :=
        ⟨u, B2, A2, e2, c2, .step HP.out.1 hp8, by omega, low_mono (by omega) _ hl8, kp8.grown hg5 (by simp), kq8.set5 _ _ _ _ _,
          IsTm.keep (fun b h => ⟨⟨h.1.elim (fun h => h.1.1) (fun h => by omega), h.1.elim (fun h => h.1.2) (fun h => by omega)⟩, Nat.lt_of_lt_of_le h.2 hg5.size⟩) (fun p hp => World.cell?_of_block (hg5.block p.block hp.2 (fun e => by
            have e' : p.block = w5.heap.size + 1 := by simpa using e
            exact hp.1.elim (fun h => h.1.2 e') (fun h => by omega)))) _ hu8, hd8.grown hg5 (fun k e => by cases e; omega),
          (HTR.out.trans (ht8.mono fun _ _ e => .inl e)).trans (Turn.grown hg5 fun k e => by cases e; exact .inr rfl)⟩
      have HUA := Lib.hid hUA
      clear hUA hg5 hp8 hs8 hl8 hu8 hd8 ht8 kp8 kq8
      go_wp2_with fail
      go_roundw
      case rel => exact ⟨j + 1, by omega, by go_num, HUA.out⟩
      case measure => simp [intOf]; omega
    · have e5j : decide ((j : Int) < 5) = false := decide_eq_false (by omega)
      obtain ⟨r0, r1, r2, r3, r4, _, _, _, _, _⟩ := HK.out.1.facts5
      go_wp2_with fail
      refine (normal_all X _ 400 wr HMX.out.ok (by omega) (low_mono (by omega) _ HLX.out) (by omega) TR.out (IsTm.keep (fun b h => by have := h.2; omega) (fun p hp => World.cell?_of_block (HTR.out.block p.block (by have := hp.2; omega) (by have := hp.1; have := hp.2; omega))) _ X5.out)).mono ?_
      rintro e w8 ⟨b8, pk, pi, ptk, pB, pA, pn, pd, pm, pc, ps, er, rfl, h8⟩
      have hz8 := b8.size
      have H8 := Lib.hid h8
      have B8 := Lib.hid b8
      clear h8 b8 r0 r1 r2 r3 r4
      go_upto_region 14 with fail
      obtain ⟨b9, z9, k9⟩ := new_blk (Below.refl w8.heap.size w8) (Nat.le_refl _) #[.int .i64 pk, .int .i64 pi, .int .i64 ptk, .slice pB pn pd, .slice pA pm pc] 34
      generalize w8.alloc (Obj.cells #[.int .i64 pk, .int .i64 pi, .int .i64 ptk, .slice pB pn pd, .slice pA pm pc] 34) = W9 at b9 z9 k9 ⊢
      have hz9 := b9.size
      have B9 := Lib.hid (And.intro (B8.out.trans (b9.mono hz8)) b9)
      have K9 := Lib.hid k9
      clear b9 k9
      obtain ⟨r0, r1, r2, r3, r4, _, _, _, _, _⟩ := (HK.out.2.below B9.out.1 HK.out.2.lt).facts5
      go_wp2_with fail
      refine (normal_all Y _ 400 W9 HP.out.2.1 (by omega) (low_mono (by omega) _ HP.out.2.2) (by omega) (TR.out.after B9.out.1) (IsTm.keep (fun b h => by have := h.2; omega) (fun p hp => B9.out.1.cell hp.2) _ HY.out)).mono ?_
      rintro e w10 ⟨b10, qk, qi, qtk, qB, qA, qn, qd, qm, qc, qs, er', rfl, h10⟩
      have hz10 := b10.size
      have H10 := Lib.hid h10
      have B10 := Lib.hid (And.intro (B9.out.1.trans (b10.mono (by omega))) b10)
      clear h10 b10 r0 r1 r2 r3 r4
      go_upto_region 15 with fail
      obtain ⟨b11, z11, k11⟩ := new_blk (Below.refl w10.heap.size w10) (Nat.le_refl _) #[.int .i64 qk, .int .i64 qi, .int .i64 qtk, .slice qB qn qd, .slice qA qm qc] 34
      generalize w10.alloc (Obj.cells #[.int .i64 qk, .int .i64 qi, .int .i64 qtk, .slice qB qn qd, .slice qA qm qc] 34) = W11 at b11 z11 k11 ⊢
      have hz11 := b11.size
      have B11 := Lib.hid (And.intro (B10.out.1.trans (b11.mono (by omega))) b11)
      have K11 := Lib.hid k11
      have BB := Lib.hid (show Below w.heap.size w W11 from (B7.out.trans (HTR.out.toBelow (fun k hk e => by omega) B7.out.size)).trans (B11.out.1.mono (by have := B7.out.size; omega)))
      clear b11 k11
      have hout := H10.out
      rcases H8.out with ⟨rfl, _, a, na, ta⟩ | rfl | rfl
      · rcases hout with ⟨rfl, hsY, b, nb, tb⟩ | rfl | rfl
        · have hum := fun er => unique_match (er := er) HMX.out.ok HP.out.1 na nb
          obtain rfl := (hum 0).1
          have hab := na.facts HMX.out.ok (by omega)
          have HUM := Lib.hid fun er => (hum er).2
          have TA := Lib.hid (And.intro (show IsTm (· < W9.heap.size) W9 a _ from IsTm.keep (fun b h => Nat.lt_of_lt_of_le h hz9) (fun p hp => B9.out.2.cell hp) _ ta) tb)
          have hbY := ok_bulk HP.out.2.1
          clear hum na nb ta tb
          obtain ⟨r0, r1, r2, r3, r4, _, _, _, _, _⟩ := (HK.out.1.below B11.out.1 HK.out.1.lt).facts5
          obtain ⟨s0, s1, s2, s3, s4, _, _, _, _, _⟩ := (HK.out.2.below B11.out.1 HK.out.2.lt).facts5
          go_wp2_with fail
          refine (match_any X Y _ _ 400 W11 (errT_zero.2 ⟨HMX.out.ok, by omega⟩) (errT_zero.2 ⟨HP.out.2.1, hsY⟩) (low_mono (by omega) _ HLX.out) (low_mono (by omega) _ HP.out.2.2) (by omega) (by omega) (by omega) (TR.out.after B11.out.1) (IsTm.keep (fun b h => by have := h.2; omega) (fun p hp => (B11.out.1.cell (by have := hp.2; omega)).trans (World.cell?_of_block (HTR.out.block p.block (by have := hp.2; omega) (by have := hp.1; have := hp.2; omega)))) _ X5.out) (IsTm.keep (fun b h => by have := h.2; omega) (fun p hp => B11.out.1.cell hp.2) _ HY.out)).mono ?_
          rintro e w12 ⟨er, rfl, hm, b12⟩
          obtain rfl := HUM.out er hm
          have hz12 := b12.size
          have B12 := Lib.hid b12
          clear hm b12 r0 r1 r2 r3 r4 s0 s1 s2 s3 s4
          obtain ⟨r0, r1, r2, r3, r4, _, _, _, _, _⟩ := ((K9.out.below (B10.out.2.trans (B11.out.2.mono hz10)) K9.out.lt).below B12.out (by have := K9.out.lt; omega)).facts5
          obtain ⟨s0, s1, s2, s3, s4, _, _, _, _, _⟩ := (K11.out.below B12.out K11.out.lt).facts5
          go_wp2_with fail
          refine (sameT_refl a.bulk a _ _ w12 (Nat.le_refl _) (by omega) (IsTm.keep (fun b h => by have h' : b < W9.heap.size := h; omega) (fun p hp => (B12.out.cell (by have h' : p.block < W9.heap.size := hp; omega)).trans ((B11.out.2.cell (by have h' : p.block < W9.heap.size := hp; omega)).trans (B10.out.2.cell hp))) _ TA.out.1) (IsTm.keep (fun b h => by have h' : b < w10.heap.size := h; omega) (fun p hp => (B12.out.cell (by have h' : p.block < w10.heap.size := hp; omega)).trans (B11.out.2.cell hp)) _ TA.out.2)).mono ?_
          rintro e w13 ⟨rfl, b13⟩
          have B13 := Lib.hid (BB.out.trans ((B12.out.trans (b13.mono hz12)).mono BB.out.size))
          clear b13 r0 r1 r2 r3 r4 s0 s1 s2 s3 s4
          go_wp2_with fail
          go_ret
          exact ⟨rfl, B13.out⟩
        all_goals
          clear na ta
          go_wp2_with fail
          go_ret
          exact ⟨rfl, BB.out⟩
      all_goals
        rcases hout with ⟨rfl, _⟩ | rfl | rfl
        all_goals
          go_wp2_with fail
          go_ret
          exact ⟨rfl, BB.out⟩
end Go.Proofs.YtdhidofmojaheaaDoor
