/- For laws over the table of kinds: the table stands when the call begins. -/
import Derived.Test.YtdbkphgamkeboaaDoorLawKit
import Derived.Test.YtdbkphgamkeboaaDoorFormedT
import Derived.ProofKit
import Derived.LaidMore
import Derived.OpenShut
import Derived.Stop.Joined
import Derived.Test.YtdbkphgamkeboaaDoorSaneU
import Derived.Test.YtdbkphgamkeboaaDoorPackK
import Derived.Test.YtdbkphgamkeboaaDoorPackWalk
import Derived.Deep.RegionHeld3
import Derived.Test.YtdbkphgamkeboaaDoorRefSame
import Derived.Test.YtdbkphgamkeboaaDoorMakeT
import Derived.Test.YtdbkphgamkeboaaDoorPackSubst
namespace Go.Proofs.YtdbkphgamkeboaaDoor
open Go.ChangeShapes Go.WideShapes Go.ChangeAt Go.WideMaps Go.WideElems Go.RowKit

def laidTab : List (String × DataW Unit) := [("proofprograms/terms.arity", Rows.laid_proofprograms_terms_arity)]
theorem gArity : Tryd.prog.globalNamed "proofprograms/terms.arity" = some 0 := by kernel_rfl
theorem tArity : (Tryd.prog.globals[0]?).map (·.type) = some 158 := by kernel_rfl

/-- The door's own heap meets the condition. -/
theorem door_met (os : Os) (args : Array Value) : laidMetH Tryd.prog laidTab ((World.doorLaid Tryd.prog 400 os).forCall (fun _ _ => 0) ⟨#[], args, []⟩).memory :=
  laidMetH_of_parts3 (fuel := 8) (laidMet_of_run' 8 (by kernel_rfl) (by kernel_rfl)) (by kernel_rfl) (by kernel_rfl)

theorem tab_of_laid {W : World} (h : laidMetH Tryd.prog laidTab W) : Tab W := by
  rw [MakeChecks.laidMetH_plain _ _ _ (by kernel_rfl)] at h
  obtain ⟨ps, ⟨g0, t0, cs0, f0, p0, q0, hg0, ht0, hv0, hd0, _, _⟩, _, _⟩ := h
  obtain rfl := Option.some.inj (gArity.symm.trans hg0)
  obtain rfl := Option.some.inj (tArity.symm.trans ht0)
  obtain ⟨xs, m1, rfl, hx1, hlen, hn3, hel⟩ := DataW.trod_array Tryd.underlying158 hd0
  have c3 : Tryd.prog.cellsOf 3 = 1 := by kernel_rfl
  intro i u hu
  have hi : i < 14 := by
    have := (List.getElem?_eq_some_iff.1 hu).1
    exact this
  have h0 := hel i hi
  obtain ⟨x, hx⟩ : ∃ x, xs[i]? = some x := ⟨_, List.getElem?_eq_getElem (by omega)⟩
  rw [hx] at h0
  obtain ⟨k, e1, e2, _⟩ := DataW.trod_int Tryd.underlying3 h0
  subst e2
  rw [c3, Nat.mul_one] at e1
  have hc : cs0[i]? = some (.int .i64 k) := by
    have h1 : (List.take 1 (List.drop i cs0.toList))[0]? = some (.int .i64 k) := by rw [e1]; rfl
    simpa [List.getElem?_take, List.getElem?_drop] using h1
  have hlaid : Rows.laid_proofprograms_terms_arity (H := Unit) = .agg (arities.map fun (u : Nat) => .lit (.int .i64 (u : Int))) := rfl
  rw [hlaid] at hx1
  simp only [Prod.mk.injEq, DataW.agg.injEq] at hx1
  have h2 : (arities.map fun (u : Nat) => (DataW.lit (.int .i64 (u : Int)) : DataW Unit))[i]? = (xs.map (·.1))[i]? := by rw [hx1.1]
  rw [List.getElem?_map, List.getElem?_map, hu, hx] at h2
  simp only [Option.map_some, Option.some.injEq, DataW.lit.injEq, Lit.int.injEq, true_and] at h2
  rw [World.var?_cell hg0 hv0 i, hc, ← h2]

/-! What joinedFacts asks of the whole program, each alone: together they take more memory than a build may have. -/
theorem prog_enter : Tryd.pinned.checked.prog.mayEnter = true := by kernel_rfl
theorem prog_lifts : Tryd.pinned.checked.prog.liftsFinal = false := by kernel_rfl
theorem prog_make : Tryd.pinned.checked.prog.make = some .cut := by kernel_rfl
end Go.Proofs.YtdbkphgamkeboaaDoor
namespace Go.Proofs.YtdbkphgamkeboaaDoor
open Go.RowKit

theorem Made.more {G : List Ty} {t : Ty} {a p : Nat} {T : Tm} (h : Made G t a p T) (L : List Ty) : Made (L ++ G) t a p T := { h with typ := typ_more L T G h.typ }
theorem type_three {S : Ty} (h : S.nodes + 1 ≤ 2 ^ (1 + 1)) : S.nodes ≤ 3 := by simp at h; omega
end Go.Proofs.YtdbkphgamkeboaaDoor
namespace Go.Proofs.YtdbkphgamkeboaaDoor
open Go.RowKit

theorem bdN3 (t : Ty) : bdN 3 t ≤ 276 := by unfold bdN; split <;> decide
theorem bdO3 (t : Ty) : bdO 3 t ≤ 35 := by unfold bdO; split <;> decide
/-- A closed term, and its type. -/
def ClosedR (g : Nat) (w : World) (e : Ending) (w' : World) : Prop :=
  ∃ (x : Tm) (S : Ty) (vx vs : Value), e = .returned (.tuple #[vx, vs]) ∧ Made [] S 276 35 x ∧ S.ok = true ∧ S.nodes ≤ 3 ∧ Trm w.heap.size w' x vx ∧ Typ g w' S vs ∧ Deck w' g ∧ Turn (· = g) w w'

set_option maxRecDepth 100000 in
set_option maxHeartbeats 4000000 in
theorem closed_any (g : Nat) (w : World) (hd : Deck w g) : Calls Tryd.prog 33 #[.pointer (some ⟨g, 0, none⟩)] w (ClosedR g w) := by
  have hgl := hd.lt
  have HD := Lib.hid hd
  clear hd
  go_enter Tryd.func33, Tryd.ntmps33
  go_upto_region 1 with fail
  obtain ⟨W, hW, b2, z2, k0, k1⟩ := alloc2_facts w #[.int .i64 0, .int .i64 0, .int .i64 0, .slice none 0 0, .slice none 0 0] #[.int .i64 0, .slice none 0 0] 34 30
  rw [← hW]
  have HB := Lib.hid (And.intro b2 z2)
  have HK := Lib.hid (And.intro k0 k1)
  have b2z := Lib.hid b2.size
  have HD1 := Lib.hid (HD.out.call b2)
  clear hW b2 k0 k1
  go_wp2_with fail
  refine (type_any 1 1 g W (by omega) (by omega) (by omega) HD1.out).mono ?_
  rintro e w3 ⟨S, x3, rfl, okS, szS, tyS, hd3, hg3⟩
  obtain ⟨A3, c3, rfl⟩ := tyS.form
  have nS := type_three szS
  have s3 := turn_of hg3
  have hz3 := s3.size
  have hzW := b2z.out
  have HS := Lib.hid (And.intro okS (Typ.of tyS (show g < W.heap.size from HD1.out.lt)))
  have K3 := Lib.hid (And.intro (HK.out.1.turn s3 (by omega)) (HK.out.2.turn s3 (by have := HB.out.2; omega)))
  have HD3 := Lib.hid hd3
  have S3 := Lib.hid (show Turn (· = g) w w3 from (Turn.call HB.out.1).trans s3)
  have HTY := Lib.hid tyS
  clear tyS hg3 hd3 okS szS s3
  go_upto_region 2 with fail
  obtain ⟨b4, z4, kT⟩ := new_blk (Below.refl w3.heap.size w3) (Nat.le_refl _) #[.int .i64 S.kind, .slice A3 S.args.length c3] 30
  have K4 := Lib.hid (And.intro (K3.out.1.below b4 K3.out.1.lt) (K3.out.2.below b4 K3.out.2.lt))
  have D4 := Lib.hid (HD3.out.call b4)
  have S4 := Lib.hid (S3.out.trans (Turn.call b4))
  generalize w3.alloc (Obj.cells #[.int .i64 S.kind, .slice A3 S.args.length c3] 30) = W4 at b4 z4 kT K4 D4 S4 ⊢
  have HS4 := Lib.hid (Typ.turn HS.out.2 (Turn.call b4))
  have KT := Lib.hid kT
  have hg4 : g < W.heap.size := HD1.out.lt
  have B4 := Lib.hid b4
  clear b4 kT K3 HD3
  have hz2 := HB.out.2
  have HSK := Lib.hid fun (w' : World) (h : Turn (fun k => k = g ∨ k = w.heap.size ∨ k = w.heap.size + 1) W4 w') => And.intro (KT.out.turn h (by omega)).facts2.1 (KT.out.turn h (by omega)).facts2.2.1
  obtain ⟨y0, y1⟩ := HSK.out W4 (Turn.refl _ W4)
  have QD := Lib.hid (show Turn (· = g) W4 W4.drew from Turn.call ((Below.refl _ _).drew))
  have QE := Lib.hid (show Turn (fun k => k = g ∨ k = w.heap.size ∨ k = w.heap.size + 1) W4 W4.drew from QD.out.mono fun _ _ e => .inl e)
  have DD := Lib.hid (D4.out.drewd)
  go_region_held3 (fun w' => w'.cell? ⟨w3.heap.size, 0, none⟩ = some (.int .i64 S.kind) ∧ w'.cell? ⟨w3.heap.size, 1, none⟩ = some (.slice A3 S.args.length c3))
    (first | with_reducible exact HSK.out _ QE.out | with_reducible exact HSK.out _ T9.out | with_reducible exact HSK.out _ TF.out | with_reducible exact HSK.out _ TG.out)
    (first
      | (go_at_call 20
         have P9 := term_any g (4 * 3 + S.nodes + 1) [] S 3 (.slice none 0 0) (.agg #[.int .i64 S.kind, .slice A3 S.args.length c3]) W4.drew (by simp) (by omega) (by omega) (by simp; omega) HS.out.1 nS ⟨Rep.Sl.nil _ _, .inl rfl, fun _ h => by cases h⟩ (Typ.turn HS4.out QD.out) DD.out
         (with_reducible refine P9.mono ?_)
         rintro e w9 ⟨X, v9, rfl, mX, tX, hd9, ht9⟩
         clear P9
         obtain ⟨B9, e9, A9, c9, rfl, _⟩ := IsTm.form tX
         have S9 := Lib.hid (QD.out.trans ht9)
         have T9 := Lib.hid (S9.out.mono (Y := fun k => k = g ∨ k = w.heap.size ∨ k = w.heap.size + 1) fun _ _ e => .inl e)
         have K9 := Lib.hid (And.intro (K4.out.1.turn S9.out (by omega)) (K4.out.2.turn S9.out (by omega)))
         obtain ⟨_, _, _, _, _, f0, f1, f2, f3, f4⟩ := K9.out.1.facts5
         obtain ⟨_, _, f5, f6⟩ := K9.out.2.facts2
         have TF := Lib.hid (T9.out.trans (Turn.grown (only_set5 w9 w.heap.size (.int .i64 X.kind) (.int .i64 X.index) (.int .i64 X.type.kind) (.slice B9 X.type.args.length e9) (.slice A9 X.args.length c9)) (fun k e => by cases e; exact .inr (.inl rfl))))
         have TG := Lib.hid (TF.out.trans (Turn.grown (only_set2 _ (w.heap.size + 1) (.int .i64 S.kind) (.slice A3 S.args.length c3)) (fun k e => by cases e; exact .inr (.inr rfl))))
         have HX := Lib.hid (And.intro mX (And.intro tX hd9))
         clear mX tX hd9 ht9))
  all_goals
    have hg5 := only_set5 w9 w.heap.size (.int .i64 X.kind) (.int .i64 X.index) (.int .i64 X.type.kind) (.slice B9 X.type.args.length e9) (.slice A9 X.args.length c9)
    have hg2 := only_set2 (((((w9.setCell ⟨w.heap.size, 0, none⟩ (.int .i64 X.kind)).setCell ⟨w.heap.size, 1, none⟩ (.int .i64 X.index)).setCell ⟨w.heap.size, 2, none⟩ (.int .i64 X.type.kind)).setCell ⟨w.heap.size, 3, none⟩ (.slice B9 X.type.args.length e9)).setCell ⟨w.heap.size, 4, none⟩ (.slice A9 X.args.length c9)) (w.heap.size + 1) (.int .i64 S.kind) (.slice A3 S.args.length c3)
    have kx := Blk.grown (K9.out.1.set5 (.int .i64 X.kind) (.int .i64 X.index) (.int .i64 X.type.kind) (.slice B9 X.type.args.length e9) (.slice A9 X.args.length c9)) hg2 (by simp)
    have ky := (Blk.grown K9.out.2 hg5 (by simp)).set2 (.int .i64 S.kind) (.slice A3 S.args.length c3)
    have hz9 := S9.out.size
    have hz5 := hg5.size
    have hz2' := hg2.size
    have hfar : ∀ q : Addr, W.heap.size ≤ q.block → q.block < w9.heap.size → ∀ W', W' = ((((((w9.setCell ⟨w.heap.size, 0, none⟩ (.int .i64 X.kind)).setCell ⟨w.heap.size, 1, none⟩ (.int .i64 X.index)).setCell ⟨w.heap.size, 2, none⟩ (.int .i64 X.type.kind)).setCell ⟨w.heap.size, 3, none⟩ (.slice B9 X.type.args.length e9)).setCell ⟨w.heap.size, 4, none⟩ (.slice A9 X.args.length c9)).setCell ⟨w.heap.size + 1, 0, none⟩ (.int .i64 S.kind)).setCell ⟨w.heap.size + 1, 1, none⟩ (.slice A3 S.args.length c3) → W'.cell? q = w9.cell? q := fun q h1 h2 W' e => by
      rw [e]
      exact (World.cell?_of_block (hg2.block q.block (by omega) (by simp; omega))).trans (World.cell?_of_block (hg5.block q.block h2 (by simp; omega)))
    have hd := (HX.out.2.2.grown hg5 (fun k e => by cases e; omega)).grown hg2 (fun k e => by cases e; omega)
    have ht := ((S4.out.trans S9.out).local hg5 (Nat.le_refl _)).local hg2 (by omega)
    go_wp2_with fail
    obtain ⟨y0, y1, y2, y3, y4⟩ := kx.cells5
    obtain ⟨y5, y6, _, _⟩ := ky.facts2
    exact bodyPost_ret (v := .tuple #[.agg #[.int .i64 X.kind, .int .i64 X.index, .int .i64 X.type.kind, .slice B9 X.type.args.length e9, .slice A9 X.args.length c9], .agg #[.int .i64 S.kind, .slice A3 S.args.length c3]]) (by simp [results, Tryd.results33, go_sem, y0, y1, y2, y3, y4, y5, y6]) rfl
      ⟨X, S, _, _, rfl, HX.out.1.mono (by have := bdN3 S; exact this) (by have := bdO3 S; exact this), HS.out.1, nS, IsTm.keep (fun b h => ⟨by have h1 : W4.heap.size ≤ b := h.1; omega, by have := h.2; omega⟩) (fun q h => hfar q (by have h1 : W4.heap.size ≤ q.block := h.1; omega) h.2 _ rfl) _ HX.out.2.1,
        IsTy.keep (fun b h => ⟨by have := h.1; omega, by have := h.2; omega⟩) (fun q h => (hfar q h.1 (by have := h.2; omega) _ rfl).trans (World.cell?_of_block ((S9.out.block q.block (by have := h.2; omega) (by have := h.1; omega)).trans (B4.out.block q.block (by have := h.2; omega))))) _ HTY.out, hd, ht⟩
end Go.Proofs.YtdbkphgamkeboaaDoor
namespace Go.Proofs.YtdbkphgamkeboaaDoor
open Go.RowKit

set_option maxRecDepth 100000 in
set_option maxHeartbeats 4000000 in
theorem sameT_refl (n : Nat) : ∀ (t : Tm) (u v : Value) (w : World), t.bulk ≤ n → n ≤ 400000 → IsTm (· < w.heap.size) w t u → IsTm (· < w.heap.size) w t v →
    Calls Tryd.prog 28 #[u, v] w fun e w' => e = .returned (.bool true) ∧ Below w.heap.size w w' := by
  induction n with
  | zero => intro t; have := bulk_pos t; omega
  | succ n ih =>
    rintro ⟨k, i, T, l⟩ u v w hn hb hu hv
    obtain ⟨B, d, A, c, rfl, hT, hl⟩ := hu.mk_parts
    obtain ⟨B', d', A', c', rfl, hT', hl'⟩ := hv.mk_parts
    have hll := bulkAll_len l
    simp only [Tm.bulk] at hn
    have IH := Lib.hid ih
    have HL := Lib.hid (And.intro hl hl')
    obtain ⟨b1, z1, k1⟩ := new_blk (Below.refl w.heap.size w) (Nat.le_refl _) #[.int .i64 k, .int .i64 i, .int .i64 T.kind, .slice B T.args.length d, .slice A l.length c] 34
    obtain ⟨b2, z2, k2⟩ := new_blk b1 b1.size #[.int .i64 k, .int .i64 i, .int .i64 T.kind, .slice B' T.args.length d', .slice A' l.length c'] 34
    have k1 := k1.alloc (Obj.cells #[.int .i64 k, .int .i64 i, .int .i64 T.kind, .slice B' T.args.length d', .slice A' l.length c'] 34)
    rw [z1] at k2 z2
    obtain ⟨W, hW⟩ : ∃ W, W = (w.alloc (Obj.cells #[.int .i64 k, .int .i64 i, .int .i64 T.kind, .slice B T.args.length d, .slice A l.length c] 34)).alloc (Obj.cells #[.int .i64 k, .int .i64 i, .int .i64 T.kind, .slice B' T.args.length d', .slice A' l.length c'] 34) := ⟨_, rfl⟩
    rw [← hW] at b2 z2 k1 k2
    have HTY := Lib.hid (And.intro (hT.boxed' b2) (hT'.boxed' b2))
    have hTn : T.nodes ≤ 400000 := by omega
    have HKK := Lib.hid (And.intro k1 (And.intro k2 b2))
    obtain ⟨p0, p1, p2, p3, p4, _⟩ := k1.facts5
    obtain ⟨s0, s1, s2, s3, s4, _⟩ := k2.facts5
    clear hu hv hT hT' hl hl' ih b1 z1 k1 k2
    go_enter Tryd.func28, Tryd.ntmps28
    go_wp2_with fail
    rw [← hW]
    clear hW
    refine (refSame_any 400000 T T _ _ W hTn (Nat.le_refl _) HTY.out.1 HTY.out.2 hTn).mono ?_
    rintro e W1 ⟨rfl, hbW⟩
    rw [eqb_self]
    have HBW := Lib.hid hbW
    have HK2 := Lib.hid (And.intro (HKK.out.1.below hbW HKK.out.1.lt) (And.intro (HKK.out.2.1.below hbW HKK.out.2.1.lt) (HKK.out.2.2.trans (hbW.mono HKK.out.2.2.size))))
    obtain ⟨_, _, _, _, q4, _⟩ := HK2.out.1.facts5
    obtain ⟨_, _, _, _, r4, _⟩ := HK2.out.2.1.facts5
    clear hbW p0 p1 p2 p3 p4 s0 s1 s2 s3 s4
    go_wp2_with fail
    go_loopw [38] (fun ix wr => ∃ j : Nat, j ≤ l.length ∧ ix = .int .i64 j ∧ Below W1.heap.size W1 wr) (fun ix _ => l.length - (intOf ix).toNat)
    case atStart => exact ⟨0, by omega, rfl, Below.refl _ _⟩
    case round =>
      obtain ⟨j, hj, rfl, hbel⟩ := hrel
      have hws := hbel.size
      have hB2 : Below w.heap.size w wr := HK2.out.2.2.trans (hbel.mono HK2.out.2.2.size)
      by_cases hlt : j < l.length
      · have hl1 : TmR.Sl (· < w.heap.size) wr l (.slice A l.length c) := HL.out.1.keep (fun _ h => h) (fun p hp => hB2.cell hp)
        have hm1 : TmR.Sl (· < w.heap.size) wr l (.slice A' l.length c') := HL.out.2.keep (fun _ h => h) (fun p hp => hB2.cell hp)
        obtain ⟨a, rfl, ha, hat⟩ := hl1.get j hlt
        obtain ⟨a', rfl, ha', hat'⟩ := hm1.get j hlt
        obtain ⟨B1, d1, A1, c1, q0, q1, q2, q3, q4', hx⟩ := at_tm hat
        obtain ⟨B2, d2, A2, c2, r0, r1, r2, r3, r4', hy⟩ := at_tm hat'
        simp only [show TmR.n = 5 from rfl] at q0 q1 q2 q3 q4' r0 r1 r2 r3 r4'
        have hnj := bulkAll_get l j hlt
        have hab : (a.add (j * 5)).block < w.heap.size := by rw [add_block]; exact ha
        have hab' : (a'.add (j * 5)).block < w.heap.size := by rw [add_block]; exact ha'
        have hwz := hB2.size
        have k1 := HK2.out.1.below hbel HK2.out.1.lt
        have k2 := HK2.out.2.1.below hbel HK2.out.2.1.lt
        have HSK := Lib.hid fun (w1 : World) (h : Below wr.heap.size wr w1) => And.intro (k1.below h k1.lt).facts5.2.2.2.2.1 (And.intro (k2.below h k2.lt).facts5.2.2.2.2.1
          (And.intro ((h.cell (p := a.add (j * 5)) (by omega)).trans q0) (And.intro ((h.cell (p := ⟨(a.add (j * 5)).block, (a.add (j * 5)).off + 1, none⟩) (by show (a.add (j * 5)).block < _; omega)).trans q1)
            (And.intro ((h.cell (p := ⟨(a.add (j * 5)).block, (a.add (j * 5)).off + 2, none⟩) (by show (a.add (j * 5)).block < _; omega)).trans q2) (And.intro ((h.cell (p := ⟨(a.add (j * 5)).block, (a.add (j * 5)).off + 3, none⟩) (by show (a.add (j * 5)).block < _; omega)).trans q3)
              (And.intro ((h.cell (p := ⟨(a.add (j * 5)).block, (a.add (j * 5)).off + 4, none⟩) (by show (a.add (j * 5)).block < _; omega)).trans q4')
          (And.intro ((h.cell (p := a'.add (j * 5)) (by omega)).trans r0) (And.intro ((h.cell (p := ⟨(a'.add (j * 5)).block, (a'.add (j * 5)).off + 1, none⟩) (by show (a'.add (j * 5)).block < _; omega)).trans r1)
            (And.intro ((h.cell (p := ⟨(a'.add (j * 5)).block, (a'.add (j * 5)).off + 2, none⟩) (by show (a'.add (j * 5)).block < _; omega)).trans r2) (And.intro ((h.cell (p := ⟨(a'.add (j * 5)).block, (a'.add (j * 5)).off + 3, none⟩) (by show (a'.add (j * 5)).block < _; omega)).trans r3)
              ((h.cell (p := ⟨(a'.add (j * 5)).block, (a'.add (j * 5)).off + 4, none⟩) (by show (a'.add (j * 5)).block < _; omega)).trans r4')))))))))))
        have ARM := Lib.hid (show Calls Tryd.prog 28 #[.agg #[.int .i64 l[j].kind, .int .i64 l[j].index, .int .i64 l[j].type.kind, .slice B1 l[j].type.args.length d1, .slice A1 l[j].args.length c1],
            .agg #[.int .i64 l[j].kind, .int .i64 l[j].index, .int .i64 l[j].type.kind, .slice B2 l[j].type.args.length d2, .slice A2 l[j].args.length c2]] wr.drew fun e w' => e = .returned (.bool true) ∧ Below wr.heap.size wr w' by
          refine (IH.out l[j] _ _ wr.drew (by omega) (by omega) (hx.keep (fun b h => Nat.lt_of_lt_of_le h hwz) (fun p _ => World.cell?_drew _ p)) (hy.keep (fun b h => Nat.lt_of_lt_of_le h hwz) (fun p _ => World.cell?_drew _ p))).mono ?_
          rintro e w1 ⟨h1, h2⟩
          exact ⟨h1, ((Below.refl _ wr).drew).trans h2⟩)
        obtain ⟨m0, m1, _⟩ := HSK.out wr (Below.refl _ _)
        have HBL := Lib.hid hbel
        clear hl1 hm1 hat hat' hx hy k1 k2 q0 q1 q2 q3 q4' r0 r1 r2 r3 r4' hbel hB2
        go_wp2_with fail
        go_region_held3 (fun w' => w'.cell? ⟨w.heap.size, 4, none⟩ = some (.slice (some a) l.length c) ∧ w'.cell? ⟨w.heap.size + 1, 4, none⟩ = some (.slice (some a') l.length c') ∧
            w'.cell? (a.add (j * 5)) = some (.int .i64 l[j].kind) ∧ w'.cell? ⟨(a.add (j * 5)).block, (a.add (j * 5)).off + 1, none⟩ = some (.int .i64 l[j].index) ∧ w'.cell? ⟨(a.add (j * 5)).block, (a.add (j * 5)).off + 2, none⟩ = some (.int .i64 l[j].type.kind) ∧
            w'.cell? ⟨(a.add (j * 5)).block, (a.add (j * 5)).off + 3, none⟩ = some (.slice B1 l[j].type.args.length d1) ∧ w'.cell? ⟨(a.add (j * 5)).block, (a.add (j * 5)).off + 4, none⟩ = some (.slice A1 l[j].args.length c1) ∧
            w'.cell? (a'.add (j * 5)) = some (.int .i64 l[j].kind) ∧ w'.cell? ⟨(a'.add (j * 5)).block, (a'.add (j * 5)).off + 1, none⟩ = some (.int .i64 l[j].index) ∧ w'.cell? ⟨(a'.add (j * 5)).block, (a'.add (j * 5)).off + 2, none⟩ = some (.int .i64 l[j].type.kind) ∧
            w'.cell? ⟨(a'.add (j * 5)).block, (a'.add (j * 5)).off + 3, none⟩ = some (.slice B2 l[j].type.args.length d2) ∧ w'.cell? ⟨(a'.add (j * 5)).block, (a'.add (j * 5)).off + 4, none⟩ = some (.slice A2 l[j].args.length c2))
          (first | with_reducible exact HSK.out _ (Below.refl _ _).drew | with_reducible exact HSK.out _ HB1.out | go_keep)
          (first
            | (go_at_call 28
               (with_reducible refine ARM.out.mono ?_)
               rintro e w1 ⟨rfl, hb1⟩
               have HB1 := Lib.hid hb1
               clear hb1))
        go_wp2_with fail
        exact ⟨⟨j + 1, by omega, by go_num, HBL.out.trans (HB1.out.mono hws)⟩, by simp [intOf]; omega⟩
      · have hjl : j = l.length := by omega
        subst hjl
        clear hbel
        go_wp2_with fail
        go_ret
        exact ⟨rfl, hB2⟩
end Go.Proofs.YtdbkphgamkeboaaDoor
namespace Go.Proofs.YtdbkphgamkeboaaDoor
open Go.RowKit

theorem sl_new_tm {w : World} {T : Tm} {B A : Option Addr} {d c : Nat} (h : IsTm (· < w.heap.size) w T (.agg #[.int .i64 T.kind, .int .i64 T.index, .int .i64 T.type.kind, .slice B T.type.args.length d, .slice A T.args.length c])) :
    TmR.Sl (· < (w.alloc (Obj.cells #[.int .i64 T.kind, .int .i64 T.index, .int .i64 T.type.kind, .slice B T.type.args.length d, .slice A T.args.length c] 34)).heap.size) (w.alloc (Obj.cells #[.int .i64 T.kind, .int .i64 T.index, .int .i64 T.type.kind, .slice B T.type.args.length d, .slice A T.args.length c] 34)) [T] (.slice (some ⟨w.heap.size, 0, none⟩) 1 1) :=
  Rep.Sl.of_blk (R := TmR) (Blk.new w 34 _) (tm_one (IsTm.keep (fun b h => by have h' : b < w.heap.size := h; simp; omega) (fun p hp => World.cell?_alloc_lt _ _ _ hp) _ h)) (fun _ h => h) (by simp) rfl
theorem sl_new_var {w : World} (i : Int) : TmR.Sl (· < (w.alloc (Obj.cells #[.int .i64 1, .int .i64 i, .int .i64 0, .slice none 0 0, .slice none 0 0] 34)).heap.size) (w.alloc (Obj.cells #[.int .i64 1, .int .i64 i, .int .i64 0, .slice none 0 0, .slice none 0 0] 34)) [.mk 1 i .zero []] (.slice (some ⟨w.heap.size, 0, none⟩) 1 1) :=
  Rep.Sl.of_blk (R := TmR) (Blk.new w 34 _) (tm_one (var_is _ _ i)) (fun _ h => h) (by simp) rfl

end Go.Proofs.YtdbkphgamkeboaaDoor
namespace Go.Proofs.YtdbkphgamkeboaaDoor
open Go.RowKit

theorem sane_next : (Tm.mk 3 0 .zero [.mk 2 0 tyNat [.mk 5 0 .zero [.mk 1 0 .zero []]], .mk 4 0 .zero []]).next = some (.mk 5 0 .zero [.mk 4 0 .zero []]) := by rfl
set_option maxRecDepth 100000 in
set_option maxHeartbeats 4000000 in
theorem saneR_any (w : World) (htab : Tab w) : Calls Tryd.prog 29 #[] w fun e w' => e = .returned (.bool true) ∧ Below w.heap.size w w' := by
  have HTab := Lib.hid htab
  clear htab
  go_enter Tryd.func29, Tryd.ntmps29
  go_wp2_with fail
  refine (nat_any _).mono ?_
  rintro e w0 ⟨rfl, hb0⟩
  go_wp2_with fail
  refine (var_any 0 w0).mono ?_
  rintro e w1 ⟨rfl, hb1⟩
  have hb01 := hb0.trans (hb1.mono hb0.size)
  have HB1 := Lib.hid hb01
  have HS1 := Lib.hid (sl_new_var (w := w1) 0)
  have HQ1 := Lib.hid (hb01.alloc hb01.size (Obj.cells #[.int .i64 1, .int .i64 0, .int .i64 0, .slice none 0 0, .slice none 0 0] 34))
  clear hb0 hb1 hb01
  go_wp2_with fail
  obtain ⟨ts, hts⟩ : ∃ t, Hid (t = Tm.mk 5 0 .zero [.mk 1 0 .zero []]) := ⟨_, Lib.hid rfl⟩
  refine (n_any 5 [.mk 1 0 .zero []] _ _ (by decide) HS1.out).mono ?_
  rintro e w3 ⟨v3, rfl, ht3, hb3⟩
  rw [← hts.out] at ht3
  obtain ⟨B3, d3, A3, c3, rfl, _⟩ := ht3.form
  have HB3 := Lib.hid (HQ1.out.trans (hb3.mono HQ1.out.size))
  have HQ3 := Lib.hid (HB3.out.alloc HB3.out.size (Obj.cells #[.int .i64 ts.kind, .int .i64 ts.index, .int .i64 ts.type.kind, .slice B3 ts.type.args.length d3, .slice A3 ts.args.length c3] 34))
  have HT3 := Lib.hid (sl_new_tm (w := w3) (T := ts) (IsTm.keep (fun b h => h.2) (fun _ _ => rfl) _ ht3))
  have hbs : bulkAll [ts] ≤ 400000 := by rw [hts.out]; decide
  clear ht3 hb3
  go_wp2_with fail
  obtain ⟨tl, htl⟩ : ∃ t, Hid (t = Tm.mk 2 0 tyNat [ts]) := ⟨_, Lib.hid rfl⟩
  refine (t_any 2 tyNat [ts] _ _ _ (by decide) hbs (IsTy.leaf _ _ 1) HT3.out).mono ?_
  rintro e w4 ⟨v4, rfl, ht4, hb4⟩
  rw [← htl.out] at ht4
  obtain ⟨B4, d4, A4, c4, rfl, _⟩ := ht4.form
  have HB4 := Lib.hid (HQ3.out.trans (hb4.mono HQ3.out.size))
  have HT4 := Lib.hid (show IsTm (· < w4.heap.size) w4 tl _ from IsTm.keep (fun b h => h.2) (fun _ _ => rfl) _ ht4)
  clear ht4 hb4
  go_wp2_with fail
  obtain ⟨tz, htz⟩ : ∃ t, Hid (t = Tm.mk 4 0 .zero []) := ⟨_, Lib.hid rfl⟩
  refine (n_any 4 [] _ w4 (by decide) (Rep.Sl.nil _ _)).mono ?_
  rintro e w5 ⟨v5, rfl, ht5, hb5⟩
  rw [← htz.out] at ht5
  obtain ⟨B5, d5, A5, c5, rfl, _⟩ := ht5.form
  have HB5 := Lib.hid (HB4.out.trans (hb5.mono HB4.out.size))
  have HQ5 := Lib.hid (HB5.out.alloc HB5.out.size (Obj.cells #[.int .i64 tl.kind, .int .i64 tl.index, .int .i64 tl.type.kind, .slice B4 tl.type.args.length d4, .slice A4 tl.args.length c4, .int .i64 tz.kind, .int .i64 tz.index, .int .i64 tz.type.kind, .slice B5 tz.type.args.length d5, .slice A5 tz.args.length c5] 34))
  have HT5 := Lib.hid (tm_sl2 (HT4.out.keep (fun b h => Nat.lt_of_lt_of_le h hb5.size) (fun p hp => hb5.cell hp)) (show IsTm (· < w5.heap.size) w5 tz _ from IsTm.keep (fun b h => h.2) (fun _ _ => rfl) _ ht5))
  have hbl : bulkAll [tl, tz] ≤ 400000 := by rw [htl.out, htz.out, hts.out]; decide
  clear ht5 hb5
  go_wp2_with fail
  obtain ⟨tx, htx⟩ : ∃ t, Hid (t = Tm.mk 3 0 .zero [tl, tz]) := ⟨_, Lib.hid rfl⟩
  refine (n_any 3 [tl, tz] _ _ hbl HT5.out).mono ?_
  rintro e w6 ⟨v6, rfl, ht6, hb6⟩
  rw [← htx.out] at ht6
  have HB6 := Lib.hid (HQ5.out.trans (hb6.mono HQ5.out.size))
  have HT6 := Lib.hid (show IsTm (· < w6.heap.size) w6 tx _ from IsTm.keep (fun b h => h.2) (fun _ _ => rfl) _ ht6)
  have HX := Lib.hid (show tx = Tm.mk 3 0 .zero [.mk 2 0 tyNat [.mk 5 0 .zero [.mk 1 0 .zero []]], .mk 4 0 .zero []] by rw [htx.out, htl.out, htz.out, hts.out])
  clear ht6 hb6 htx htl htz hts hbs hbl HQ1 HQ3 HQ5 HT3 HT4 HT5 HS1 HB1 HB3 HB4 HB5
  go_wp2_with fail
  refine (stepTop_any tx _ (· < w6.heap.size) w6 (by rw [HX.out]; decide) (by rw [HX.out]; decide) (by rw [HX.out]; decide) (HTab.out.after HB6.out) (fun _ h => h) HT6.out).mono ?_
  rintro e w7 ⟨hb7, h7⟩
  obtain ⟨ta, hta⟩ : ∃ t, t = Tm.mk 5 0 .zero [.mk 4 0 .zero []] := ⟨_, rfl⟩
  have hnx : tx.next = some ta := by rw [HX.out, hta]; exact sane_next
  have h7' : ∃ v7, e = .returned (.tuple #[v7, .bool true, .int .i64 0]) ∧ IsTm (· < w7.heap.size) w7 ta v7 := by
    rcases h7 with ⟨u, v', rfl, hu, h1, _⟩ | ⟨v', _, _, h1⟩ | ⟨_, x, h1, h2⟩
    · rw [hnx] at h1
      cases h1
      exact ⟨v', rfl, IsTm.keep (fun b h => h.2) (fun _ _ => rfl) _ hu⟩
    · rw [hnx] at h1; cases h1
    · rw [hnx] at h1
      cases h1
      rw [hta] at h2
      exact absurd h2 (by decide)
  obtain ⟨v7, rfl, ht7⟩ := h7'
  obtain ⟨B7, d7, A7, c7, rfl, _⟩ := ht7.form
  have HB7 := Lib.hid (HB6.out.trans (hb7.mono HB6.out.size))
  have HT7 := Lib.hid ht7
  have HA := Lib.hid hta
  have HZ7 := Lib.hid (Below.refl w7.heap.size w7)
  clear hb7 h7 hta hnx ht7
  go_upto_region 2 with fail
  obtain ⟨b8, z8, k8⟩ := new_blk HB7.out HB7.out.size #[.int .i64 ta.kind, .int .i64 ta.index, .int .i64 ta.type.kind, .slice B7 ta.type.args.length d7, .slice A7 ta.args.length c7] 34
  obtain ⟨W, hW⟩ : ∃ W, W = w7.alloc (Obj.cells #[.int .i64 ta.kind, .int .i64 ta.index, .int .i64 ta.type.kind, .slice B7 ta.type.args.length d7, .slice A7 ta.args.length c7] 34) := ⟨_, rfl⟩
  rw [← hW] at b8 z8 k8
  rw [← hW]
  have HTA := Lib.hid (show IsTm (· < W.heap.size) W ta _ from HT7.out.keep (fun b h => by have h' : b < w7.heap.size := h; omega) (fun p hp => by rw [hW]; exact World.cell?_alloc_lt _ _ _ hp))
  have HK := Lib.hid k8
  have HBW := Lib.hid b8
  clear b8 z8 k8 hW HT7 HT6 HZ7
  have HAB := Lib.hid (show ta.bulk ≤ 400000 by rw [HA.out]; decide)
  have GD := Lib.hid ((Below.refl W.heap.size W).drew)
  have HSK := Lib.hid fun (w1 : World) (h : Below W.heap.size W w1) => And.intro h (And.intro (HK.out.below h HK.out.lt).facts5.1 (And.intro (HK.out.below h HK.out.lt).facts5.2.1 (And.intro (HK.out.below h HK.out.lt).facts5.2.2.1 (And.intro (HK.out.below h HK.out.lt).facts5.2.2.2.1 (HK.out.below h HK.out.lt).facts5.2.2.2.2.1))))
  go_region_held3 (fun w' => Below W.heap.size W w' ∧ w'.cell? ⟨w7.heap.size, 0, none⟩ = some (.int .i64 ta.kind) ∧ w'.cell? ⟨w7.heap.size, 1, none⟩ = some (.int .i64 ta.index) ∧ w'.cell? ⟨w7.heap.size, 2, none⟩ = some (.int .i64 ta.type.kind) ∧ w'.cell? ⟨w7.heap.size, 3, none⟩ = some (.slice B7 ta.type.args.length d7) ∧ w'.cell? ⟨w7.heap.size, 4, none⟩ = some (.slice A7 ta.args.length c7))
    (first | with_reducible exact HSK.out _ GD.out | with_reducible exact HSK.out _ G14.out | with_reducible exact HSK.out _ Q14.out | with_reducible exact HSK.out _ G15.out | with_reducible exact HSK.out _ G16.out | go_keep)
    (first
      | (go_at_call 28
         (with_reducible refine (sameT_refl 400000 ta _ _ w15 HAB.out (Nat.le_refl _) (HTA.out.keep (fun b h => Nat.lt_of_lt_of_le h G15.out.size) (fun p hp => G15.out.cell hp)) T15.out).mono ?_)
         rintro e w16 ⟨rfl, hb16⟩
         have G16 := Lib.hid (show Below W.heap.size W w16 from G15.out.trans (hb16.mono G15.out.size))
         clear hb16)
      | (go_at_call 35
         (with_reducible refine (n_any 5 [tz] (.slice (some ⟨w14.heap.size, 0, none⟩) 1 1) (w14.alloc (Obj.cells #[.int .i64 tz.kind, .int .i64 tz.index, .int .i64 tz.type.kind, .slice B14 tz.type.args.length d14, .slice A14 tz.args.length c14] 34)) HZB.out S14.out).mono ?_)
         rintro e w15 ⟨v15, rfl, ht15, hb15⟩
         rw [HZ.out, ← HA.out] at ht15
         obtain ⟨B15, d15, A15, c15, rfl, _⟩ := ht15.form
         have G15 := Lib.hid (show Below W.heap.size W w15 from Q14.out.trans (hb15.mono Q14.out.size))
         have T15 := Lib.hid (show IsTm (· < w15.heap.size) w15 ta _ from IsTm.keep (fun b h => h.2) (fun _ _ => rfl) _ ht15)
         clear ht15 hb15)
      | (go_at_call 35
         (with_reducible refine (n_any 4 [] (.slice none 0 0) W.drew (by decide) (Rep.Sl.nil _ _)).mono ?_)
         rintro e w14 ⟨v14, rfl, ht14, hb14⟩
         obtain ⟨tz, htz⟩ : ∃ t, t = Tm.mk 4 0 .zero [] := ⟨_, rfl⟩
         rw [← htz] at ht14
         obtain ⟨B14, d14, A14, c14, rfl, _⟩ := ht14.form
         have HZ := Lib.hid htz
         have G14 := Lib.hid (show Below W.heap.size W w14 from (Below.refl W.heap.size W).drew.trans hb14)
         have Q14 := Lib.hid (G14.out.alloc G14.out.size (Obj.cells #[.int .i64 tz.kind, .int .i64 tz.index, .int .i64 tz.type.kind, .slice B14 tz.type.args.length d14, .slice A14 tz.args.length c14] 34))
         have S14 := Lib.hid (sl_new_tm (w := w14) (T := tz) (IsTm.keep (fun b h => h.2) (fun _ _ => rfl) _ ht14))
         have HZB := Lib.hid (show bulkAll [tz] ≤ 400000 by rw [htz]; decide)
         clear ht14 hb14 htz))
  go_wp2_with fail
  go_ret
  exact ⟨rfl, HBW.out.trans (G16.out.mono HBW.out.size)⟩
end Go.Proofs.YtdbkphgamkeboaaDoor
