/- Context, Clone, TypeOf. -/
import Derived.Test.YtieafbmabnohhaaDoorTypeOf
import Derived.Deep.RegionHeld3
import Derived.Lib.LazyBuf
namespace Go.Proofs.YtieafbmabnohhaaDoor
open Go.RowKit

theorem check_is {T : Ty} {v : Value} {w : World} (e0 : Int) (he : T.err = e0) (hsz : T.nodes ≤ 400000) (hT : IsTy (· < w.heap.size) w T v) :
    Calls Tryd.prog 99 #[v] w fun e w' => e = .returned (.int .i64 e0) ∧ Below w.heap.size w w' := by
  subst he
  exact check_any T v w hsz hT

/-- The error of a context. -/
def ctxErr (g : List Ty) : Int := if 16 < g.length then 3 else errs g

set_option maxRecDepth 100000 in
set_option maxHeartbeats 2000000 in
theorem context_any (l : List Ty) (s : Value) (w : World) (hsz : nodesAll l ≤ 400000) (hlen : l.length ≤ 1000000) (hl : TyR.Sl (· < w.heap.size) w l s) :
    Calls Tryd.prog 62 #[s] w fun e w' => e = .returned (.int .i64 (ctxErr l)) ∧ Below w.heap.size w w' := by
  obtain ⟨A, c, rfl⟩ := hl.form
  have HL := Lib.hid hl
  clear hl
  by_cases h16 : 16 < l.length
  · have e1 : decide ((16 : Int) < (l.length : Int)) = true := by simp; omega
    have hr : ctxErr l = 3 := by unfold ctxErr; rw [if_pos h16]
    rw [hr]
    go_enter Tryd.func62, Tryd.ntmps62
    go_wp2_with fail
    go_ret
    exact ⟨rfl, Below.refl _ _⟩
  · have e1 : decide ((16 : Int) < (l.length : Int)) = false := by simp; omega
    have hr : ctxErr l = errs l := by unfold ctxErr; rw [if_neg h16]
    have HR := Lib.hid hr
    clear hr
    go_enter Tryd.func62, Tryd.ntmps62
    go_wp2_with fail
    go_loopw [11] (fun ix wr => ∃ j : Nat, j ≤ l.length ∧ ix = .int .i64 j ∧ errs (l.take j) = 0 ∧ Below w.heap.size w wr) (fun ix _ => l.length - (intOf ix).toNat)
    case atStart => exact ⟨0, by omega, rfl, rfl, Below.refl _ _⟩
    case round =>
      obtain ⟨j, hj, rfl, herr, hbel⟩ := hrel
      have HE := Lib.hid herr
      clear herr
      by_cases hlt : j < l.length
      · have hl1 : TyR.Sl (· < w.heap.size) wr l (.slice A l.length c) := HL.out.keep (fun _ h => h) (fun p hp => hbel.cell hp)
        obtain ⟨a, rfl, ha, hat⟩ := hl1.get j hlt
        obtain ⟨A1, c1, q0, q1, hx⟩ := at_ty hat
        simp only [show TyR.n = 2 from rfl] at q0 q1
        have hnj := nodesAll_get l j hlt
        have hbx := below_box wr (Obj.cells #[.int .i64 l[j].kind, .slice A1 l[j].args.length c1] 30)
        have hx1 := (IsTy.keep (S' := (· < wr.heap.size)) (fun b h => Nat.lt_of_lt_of_le h hbel.size) (fun _ _ => rfl) _ hx).boxed hbx
        have HX := Lib.hid (And.intro hx1 hbx)
        clear hl1 hat hx hx1 hbx
        by_cases hej : l[j].err = 0
        · have HJ := Lib.hid hej
          clear hej
          go_wp2_with fail
          refine (check_is 0 HJ.out (by omega) HX.out.1).mono ?_
          rintro e w1 ⟨rfl, hb1⟩
          go_wp2_with fail
          exact ⟨⟨j + 1, by omega, by go_num, errs_take hlt HE.out HJ.out, hbel.trans ((HX.out.2.trans (hb1.mono HX.out.2.size)).mono hbel.size)⟩, by simp [intOf]; omega⟩
        · have e2 : (l[j].err != 0) = true := by simp [hej]
          have HS := Lib.hid (errs_stop hlt HE.out hej)
          clear hej
          go_wp2_with fail
          refine (check_is l[j].err rfl (by omega) HX.out.1).mono ?_
          rintro e w1 ⟨rfl, hb1⟩
          go_wp2_with fail
          go_ret
          exact ⟨by rw [HR.out, HS.out]; rfl, hbel.trans ((HX.out.2.trans (hb1.mono HX.out.2.size)).mono hbel.size)⟩
      · have hjl : j = l.length := by omega
        subst hjl
        rw [List.take_length] at HE
        go_wp2_with fail
        go_ret
        exact ⟨by rw [HR.out, HE.out]; rfl, hbel⟩

/-- A copy of a list of types: the call's own. -/
def CloneR (S : Nat → Prop) (g : List Ty) (w : World) (e : Ending) (w' : World) : Prop := ∃ c, e = .returned c ∧ TyR.Own S w.heap.size c g w' ∧ Below w.heap.size w w'

set_option maxRecDepth 100000 in
set_option maxHeartbeats 2000000 in
theorem clone_in (S : Nat → Prop) (g : List Ty) (s : Value) (w : World) (hS : ∀ b, S b → b < w.heap.size) (hlen : g.length ≤ 1000000) (hl : TyR.Sl S w g s) (hnil : g = [] → s = .slice none 0 0) :
    Calls Tryd.prog 65 #[s] w (CloneR S g w) := by
  by_cases hg : g = []
  · subst hg
    obtain rfl := hnil rfl
    have heq := fun (w : World) (a : Option Addr) (n c : Nat) => Lib.run_eql_slice_nil (P := Tryd.prog) w 27 _ a n c 0 0 Tryd.underlying27
    go_enter Tryd.func65, Tryd.ntmps65
    go_wp2_with fail
    go_ret
    exact ⟨_, rfl, Rep.Own.nil _ _ _, Below.refl _ _⟩
  · obtain ⟨A, c, rfl, h⟩ := hl
    obtain ⟨a, rfl, ha, harr⟩ := h hg
    obtain ⟨news, hch, hnc⟩ := harr.cells
    obtain ⟨i0, hi, hz0, hz1, hz2⟩ := info_parts info_type
    have hno := hch.oneCells
    have hnl : news.length = g.length * 2 := hch.1
    have hpos : 0 < g.length := List.length_pos_iff.2 hg
    have hnc' : ∀ j u, news[j]? = some u → (w.alloc (.cells #[] 30)).cell? (a.add j) = some u := fun j u hu => (World.cell?_alloc_lt _ _ _ (by rw [add_block]; exact hS _ ha)).trans (hnc j u hu)
    have HN := Lib.hid (And.intro hnc hnc')
    have HC := Lib.hid hch
    have HS := Lib.hid hS
    clear hnc hnc' hch h harr hnil
    have heq := fun (w : World) (a : Option Addr) (n c : Nat) => Lib.run_eql_slice_nil (P := Tryd.prog) w 27 _ a n c 0 0 Tryd.underlying27
    go_enter Tryd.func65, Tryd.ntmps65
    go_wp2_with (at_builtin; go_loud (refine wpList_append_grows _ rfl _ _ 27 rfl 30 i0 _ 2 32 Tryd.underlying27 hi hz0 hz1 hz2 rfl (by decide) (some ⟨w.heap.size, 0, none⟩) 0 0 [] rfl (fun e => by cases e) rfl (fun b e j u hu => by simp at hu) a g.length c news rfl hnl HN.out.2 hno (by omega) (by simp only [maxLen]; omega) (by omega) ?_); intro v1 w1 hown1 hgr1)
    go_ret
    have hgF : w.grownBy w1 none := only_trans (World.grownBy_alloc _ _ _) hgr1
    have hbF := (Below.refl w.heap.size w).grown hgF (Nat.le_refl _) (fun k e => by cases e)
    have hlt := hown1.lt
    refine ⟨_, rfl, ?_, hbF⟩
    have h2 : TyR.Own S (w.heap.size + 1) v1 g w1 := ⟨news, by have h := hown1; simp at h; exact h, HC.out.keep (fun b h => ⟨h, Nat.lt_of_lt_of_le (HS.out b h) hbF.size, fun e => by have h1 := (hlt b e).1; have h2 := HS.out b h; simp at h1; omega⟩) (fun p hp => hbF.cell (HS.out _ hp))⟩
    exact h2.mono (fun b h _ => h) (by omega)

/-- What TypeOf returns. -/
def Tm.typeOf (t : Tm) (g : List Ty) : Except Int Ty := if ctxErr g = 0 then if t.err = 0 then t.typ g else .error t.err else .error (ctxErr g)

def TypeTopR (t : Tm) (g : List Ty) (w : World) (e : Ending) (w' : World) : Prop :=
  Below w.heap.size w w' ∧ match t.typeOf g with
    | .ok U => ∃ v, e = .returned (.tuple #[v, .int .i64 0]) ∧ IsTy (· < w'.heap.size) w' U v
    | .error k => e = .returned (.tuple #[.agg #[.int .i64 0, .slice none 0 0], .int .i64 k])

theorem errs_zero : ∀ {l : List Ty}, errs l = 0 → ∀ T ∈ l, T.err = 0
  | [], _, T, h => by simp at h
  | t :: r, he, T, h => by
    simp only [errs] at he
    split at he
    · rename_i h0
      simp at h
      rcases h with rfl | h
      · exact h0
      · exact errs_zero he T h
    · rename_i h0; exact absurd he h0
theorem ctxErr_zero {g : List Ty} (h : ctxErr g = 0) : g.length ≤ 16 ∧ ∀ T ∈ g, T.err = 0 := by
  unfold ctxErr at h
  split at h
  · cases h
  · exact ⟨by omega, errs_zero h⟩

theorem top_err {t : Tm} {g : List Ty} {w w3 : World} {c : Int} (hr : t.typeOf g = .error c) (hb : Below w.heap.size w w3) :
    TypeTopR t g w (.returned (.tuple #[.agg #[.int .i64 0, .slice none 0 0], .int .i64 c])) ((w3.setCell ⟨w.heap.size + 1, 0, none⟩ (.int .i64 0)).setCell ⟨w.heap.size + 1, 1, none⟩ (.slice none 0 0)) := by
  have hg := only_set2 w3 (w.heap.size + 1) (.int .i64 0) (.slice none 0 0)
  unfold TypeTopR
  rw [hr]
  exact ⟨hb.grown hg hb.size (fun k e => by cases e; omega), rfl⟩

set_option maxRecDepth 100000 in
set_option maxHeartbeats 4000000 in
theorem typeTop_any (t : Tm) (g : List Ty) (s v : Value) (w : World) (htab : Tab w) (hsz : t.bulk ≤ 390000) (hgs : nodesAll g ≤ 400000) (hlen : g.length ≤ 1000000) (hnil : g = [] → s = .slice none 0 0) (hg : TyR.Sl (· < w.heap.size) w g s) (hT : IsTm (· < w.heap.size) w t v) :
    Calls Tryd.prog 21 #[s, v] w (TypeTopR t g w) := by
  obtain ⟨B, d, A, c, rfl, _, _⟩ := hT.parts
  obtain ⟨W, hW, hb, hz, k0, k1⟩ := box52_facts w (.int .i64 t.kind) (.int .i64 t.index) (.int .i64 t.type.kind) (.slice B t.type.args.length d) (.slice A t.args.length c)
  have hTW := hT.keep (S' := (· < w.heap.size)) (fun _ h => h) (fun p hp => hb.cell hp)
  have hgW := hg.keep (S' := (· < w.heap.size)) (fun _ h => h) (fun p hp => hb.cell hp)
  have HT := Lib.hid hTW
  have HG := Lib.hid hgW
  have HB := Lib.hid (And.intro hb hz)
  have HTab := Lib.hid (htab.after hb)
  have HNIL := Lib.hid hnil
  have hup : ∀ b, b < w.heap.size → b < W.heap.size := fun b h => Nat.lt_of_lt_of_le h hb.size
  clear hT hg hTW hgW hb hz htab hnil
  go_enter Tryd.func21, Tryd.ntmps21
  go_wp2_with fail
  rw [← hW]
  refine (context_any g s W hgs hlen (HG.out.keep hup (fun _ _ => rfl))).mono ?_
  rintro e w1 ⟨rfl, hb1⟩
  have k0 := k0.below hb1 k0.lt
  have k1 := k1.below hb1 k1.lt
  have hs1 := hb1.size
  by_cases hc : ctxErr g = 0
  · have HC := Lib.hid hc
    rw [hc]
    clear hc
    obtain ⟨q0, q1, q2, q3, q4⟩ := k0.cells5
    go_wp2_with fail
    refine (checkT_any t _ w1 (by omega) (HTab.out.after hb1) (HT.out.keep (fun b h => Nat.lt_of_lt_of_le (hup b h) hs1) (fun p hp => hb1.cell (hup _ hp)))).mono ?_
    rintro e w2 ⟨rfl, hb2⟩
    have hb02 : Below W.heap.size W w2 := hb1.trans (hb2.mono hs1)
    have k0 := k0.below hb2 k0.lt
    have k1 := k1.below hb2 k1.lt
    have hs2 := hb02.size
    clear q0 q1 q2 q3 q4
    by_cases he : t.err = 0
    · have HE := Lib.hid he
      rw [he]
      clear he
      have hc0 := ctxErr_zero HC.out
      have hok := (errT_zero.1 HE.out).1
      have hlow : ∀ b, b < w.heap.size → b < w2.heap.size := fun b h => Nat.lt_of_lt_of_le (hup b h) hs2
      have hg2 : TyR.Sl (· < w.heap.size) w2.drew g s := HG.out.keep (fun _ h => h) (fun p hp => (World.cell?_drew _ p).trans (hb02.cell (hup _ hp)))
      have hcl : Calls Tryd.prog 65 #[s] w2.drew fun e w' => ∃ c', e = .returned c' ∧ TyR.Own (· < w.heap.size) w2.heap.size c' g w' ∧ Below w2.heap.size w2 w' := by
        refine (clone_in (· < w.heap.size) g s w2.drew (fun b h => hlow b h) (by omega) hg2 HNIL.out).mono ?_
        rintro e w' ⟨c', h1, h2, h3⟩
        exact ⟨c', h1, h2, ((Below.refl _ w2).drew).trans h3⟩
      have hto : ∀ (c' : Value) (w3 : World), TyR.Own (· < w.heap.size) w2.heap.size c' g w3 → Below w2.heap.size w2 w3 → Calls Tryd.prog 64 #[c', .agg #[.int .i64 t.kind, .int .i64 t.index, .int .i64 t.type.kind, .slice B t.type.args.length d, .slice A t.args.length c]] w3
          fun e w' => Below w2.heap.size w2 w' ∧ match t.typ g with
            | .ok U => ∃ v, e = .returned (.tuple #[v, .int .i64 0]) ∧ IsTy (fun b => (b < w.heap.size ∨ w2.heap.size ≤ b) ∧ b < w'.heap.size) w' U v
            | .error k => e = .returned (.tuple #[.agg #[.int .i64 0, .slice none 0 0], .int .i64 k]) := by
        intro c' w3 ho hb3
        have hlt := ho.lt
        refine (typeOf_any 390000 t g c' _ w2.heap.size (· < w.heap.size) w3 hsz hok hc0.2 (by omega) hb3.size (fun b h => ⟨Nat.lt_of_lt_of_le (hlow b h) hb3.size, fun e => by have h1 := (hlt b e).1; have h2 := hlow b h; omega⟩) ho
          (HT.out.keep (fun _ h => h) (fun p hp => (hb3.cell (hlow _ hp)).trans (hb02.cell (hup _ hp))))).mono ?_
        rintro e w' ⟨h1, _, h2⟩
        refine ⟨hb3.grown h1 hb3.size (fun k e => (hlt k e).1), ?_⟩
        have hs3 := hb3.size
        cases hty : t.typ g with
        | error k => rw [hty] at h2; exact h2
        | ok U =>
          rw [hty] at h2
          obtain ⟨v, h3, h4⟩ := h2
          exact ⟨v, h3, IsTy.keep (fun b h => ⟨h.1.imp id (fun h => Nat.le_trans hs3 h), h.2⟩) (fun _ _ => rfl) _ h4⟩
      have CL := Lib.hid hcl
      have HK1 := Lib.hid k1
      have HZ2 : Hid (w.heap.size + 2 ≤ w2.heap.size) := Lib.hid (by have := HB.out.2; omega)
      have HSK := Lib.hid fun (w1 : World) (h : Below (w.heap.size + 1) w2 w1) => And.intro h (k0.below h (Nat.lt_succ_self _)).cells5
      obtain ⟨_, q0, q1, q2, q3, q4⟩ := HSK.out w2 (Below.refl _ _)
      have hr0 : t.typeOf g = t.typ g := by unfold Tm.typeOf; rw [if_pos HC.out, if_pos HE.out]
      have HR0 := Lib.hid hr0
      clear hcl hg2 k0 k1 hr0 hlow
      cases hty : t.typ g with
      | ok U =>
        rw [hty] at hto HR0
        have TO := Lib.hid hto
        clear hto hty
        go_wp2_with fail
        go_region_held3 (fun w' => Below (w.heap.size + 1) w2 w' ∧ w'.cell? ⟨w.heap.size, 0, none⟩ = some (.int .i64 t.kind) ∧ w'.cell? ⟨w.heap.size, 1, none⟩ = some (.int .i64 t.index) ∧ w'.cell? ⟨w.heap.size, 2, none⟩ = some (.int .i64 t.type.kind) ∧ w'.cell? ⟨w.heap.size, 3, none⟩ = some (.slice B t.type.args.length d) ∧ w'.cell? ⟨w.heap.size, 4, none⟩ = some (.slice A t.args.length c))
          (first | exact HSK.out _ (Below.refl _ _).drew | exact HSK.out _ hb3' | exact HSK.out _ hb4' | exact HSK.out _ ((hb4'.setCell (p := ⟨w.heap.size + 1, 0, none⟩) (Nat.le_refl _) _).setCell (p := ⟨w.heap.size + 1, 1, none⟩) (Nat.le_refl _) _) | go_keep)
          (first
            | (go_at_call 64
               (with_reducible refine (TO.out c3 w3 ho3 hb3).mono ?_)
               rintro e w4 ⟨hb4, h4⟩
               obtain ⟨v4, rfl, hv4⟩ := h4
               obtain ⟨A4, c4, rfl⟩ := hv4.form
               have hb4' : Below (w.heap.size + 1) w2 w4 := hb4.mono (by have := HZ2.out; omega)
               obtain ⟨r0, r1, f0, f1⟩ := (HK1.out.below hb4 HK1.out.lt).facts2)
            | (go_at_call 65
               (with_reducible refine CL.out.mono ?_)
               rintro e w3 ⟨c3, rfl, ho3, hb3⟩
               have hb3' : Below (w.heap.size + 1) w2 w3 := hb3.mono (by have := HZ2.out; omega)))
        go_wp2_with fail
        have k1 := HK1.out.below hb4 HK1.out.lt
        obtain ⟨z0, z1, _, _⟩ := (k1.set2 (.int .i64 U.kind) (.slice A4 U.args.length c4)).facts2
        refine bodyPost_ret (v := .tuple #[.agg #[.int .i64 U.kind, .slice A4 U.args.length c4], .int .i64 0]) (by simp [results, Tryd.results21, go_sem, z0, z1]) rfl ?_
        have hbF : Below w.heap.size w w4 := (HB.out.1.trans (hb02.mono HB.out.1.size)).trans (hb4.mono (by have := HZ2.out; omega))
        have hgF := only_set2 w4 (w.heap.size + 1) (.int .i64 U.kind) (.slice A4 U.args.length c4)
        unfold TypeTopR
        rw [HR0.out]
        have hz2 := HZ2.out
        have hne : ∀ b, (b < w.heap.size ∨ w2.heap.size ≤ b) → b ≠ w.heap.size + 1 := fun b h => by omega
        exact ⟨hbF.grown hgF hbF.size (fun k e => by cases e; omega), _, rfl, IsTy.keep (fun b h => Nat.lt_of_lt_of_le h.2 hgF.size) (fun p hp => World.cell?_of_block (hgF.block p.block hp.2 (fun e => hne _ hp.1 (by simpa using e)))) _ hv4⟩
      | error er =>
        rw [hty] at hto HR0
        have TO := Lib.hid hto
        clear hto hty
        go_wp2_with fail
        go_region_held3 (fun w' => Below (w.heap.size + 1) w2 w' ∧ w'.cell? ⟨w.heap.size, 0, none⟩ = some (.int .i64 t.kind) ∧ w'.cell? ⟨w.heap.size, 1, none⟩ = some (.int .i64 t.index) ∧ w'.cell? ⟨w.heap.size, 2, none⟩ = some (.int .i64 t.type.kind) ∧ w'.cell? ⟨w.heap.size, 3, none⟩ = some (.slice B t.type.args.length d) ∧ w'.cell? ⟨w.heap.size, 4, none⟩ = some (.slice A t.args.length c))
          (first | exact HSK.out _ (Below.refl _ _).drew | exact HSK.out _ hb3' | exact HSK.out _ hb4' | exact HSK.out _ ((hb4'.setCell (p := ⟨w.heap.size + 1, 0, none⟩) (Nat.le_refl _) _).setCell (p := ⟨w.heap.size + 1, 1, none⟩) (Nat.le_refl _) _) | go_keep)
          (first
            | (go_at_call 64
               (with_reducible refine (TO.out c3 w3 ho3 hb3).mono ?_)
               rintro e w4 ⟨hb4, h4⟩
               subst h4
               have hb4' : Below (w.heap.size + 1) w2 w4 := hb4.mono (by have := HZ2.out; omega)
               obtain ⟨r0, r1, f0, f1⟩ := (HK1.out.below hb4 HK1.out.lt).facts2)
            | (go_at_call 65
               (with_reducible refine CL.out.mono ?_)
               rintro e w3 ⟨c3, rfl, ho3, hb3⟩
               have hb3' : Below (w.heap.size + 1) w2 w3 := hb3.mono (by have := HZ2.out; omega)))
        go_wp2_with fail
        have k1 := HK1.out.below hb4 HK1.out.lt
        obtain ⟨z0, z1, _, _⟩ := (k1.set2 (.int .i64 0) (.slice none 0 0)).facts2
        refine bodyPost_ret (v := .tuple #[.agg #[.int .i64 0, .slice none 0 0], .int .i64 er]) (by simp [results, Tryd.results21, go_sem, z0, z1]) rfl ?_
        have hbF : Below w.heap.size w w4 := (HB.out.1.trans (hb02.mono HB.out.1.size)).trans (hb4.mono (by have := HZ2.out; omega))
        exact top_err HR0.out hbF
    · have e2 : (t.err != 0) = true := by simp [he]
      have hr : t.typeOf g = .error t.err := by unfold Tm.typeOf; rw [if_pos HC.out, if_neg he]
      have HR := Lib.hid hr
      clear hr he
      obtain ⟨r0, r1, f0, f1⟩ := k1.facts2
      go_wp2_with fail
      obtain ⟨z0, z1, _, _⟩ := (k1.set2 (.int .i64 0) (.slice none 0 0)).facts2
      refine bodyPost_ret (v := .tuple #[.agg #[.int .i64 0, .slice none 0 0], .int .i64 t.err]) (by simp [results, Tryd.results21, go_sem, z0, z1]) rfl ?_
      exact top_err HR.out (HB.out.1.trans (hb02.mono HB.out.1.size))
  · have e2 : (ctxErr g != 0) = true := by simp [hc]
    have hr : t.typeOf g = .error (ctxErr g) := by unfold Tm.typeOf; rw [if_neg hc]
    have HR := Lib.hid hr
    clear hr hc
    obtain ⟨r0, r1, f0, f1⟩ := k1.facts2
    go_wp2_with fail
    obtain ⟨z0, z1, _, _⟩ := (k1.set2 (.int .i64 0) (.slice none 0 0)).facts2
    refine bodyPost_ret (v := .tuple #[.agg #[.int .i64 0, .slice none 0 0], .int .i64 (ctxErr g)]) (by simp [results, Tryd.results21, go_sem, z0, z1]) rfl ?_
    exact top_err HR.out (HB.out.1.trans (hb1.mono HB.out.1.size))
end Go.Proofs.YtieafbmabnohhaaDoor
