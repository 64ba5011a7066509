/- The sanity check of the second chapter. -/
import Derived.Test.YtifijgihcincfaaDoorTypeTop
import Derived.Test.YtifijgihcincfaaDoorRefSame
import Derived.Test.YtifijgihcincfaaDoorPackK
import Derived.Test.YtifijgihcincfaaDoorPackWalk
import Derived.Deep.RegionHeld3
import Derived.Test.YtifijgihcincfaaDoorMakeT
import Derived.Test.YtifijgihcincfaaDoorPackSubst
import Derived.Test.YtifijgihcincfaaDoorMade
import Derived.Test.YtifijgihcincfaaDoorPackRed
import Derived.Test.YtifijgihcincfaaDoorSeq
import Derived.RegionTactic
import Derived.Test.YtifijgihcincfaaDoorDeck
import Derived.Deep.AppendLies
import Derived.Deep.RegionLaw
import Derived.Shelf.Abstract
import Derived.Test.YtifijgihcincfaaDoorTerm
import Derived.Test.YtifijgihcincfaaDoorCopyT
import Derived.Test.YtifijgihcincfaaDoorPackMk
import Derived.Laws.OwnMore
import Derived.IntWalk
namespace Go.Proofs.YtifijgihcincfaaDoor
open Go.RowKit

def identT : Tm := .mk 2 0 tyNat [.mk 1 0 .zero []]
theorem ident_typ : identT.typeOf [] = .ok (tyFun tyNat tyNat) := by
  have h1 : ctxErr [] = 0 := rfl
  have h2 : identT.err = 0 := by decide
  unfold Tm.typeOf
  rw [if_pos h1, if_pos h2]
  rfl

theorem refSame_is {S T : Ty} {u v : Value} {w : World} (b : Bool) (hb : S.eqb T = b) (hS0 : S.nodes ≤ 400000) (hT0 : T.nodes ≤ 400000) (hS : IsTy (· < w.heap.size) w S u) (hT : IsTy (· < w.heap.size) w T v) :
    Calls Tryd.prog 25 #[u, v] w fun e w' => e = .returned (.bool b) ∧ Below w.heap.size w w' := by
  subst hb
  exact refSame_any 400000 S T u v w hS0 (Nat.le_refl _) hS hT hT0

end Go.Proofs.YtifijgihcincfaaDoor
namespace Go.Proofs.YtifijgihcincfaaDoor
open Go.RowKit

theorem typeOf_made {G : List Ty} {t : Ty} {a p : Nat} {T : Tm} (h : Made G t a p T) (ha : a ≤ 4096) (hG : G.length ≤ 16) (hok : ∀ U ∈ G, U.ok = true ∧ U.nodes ≤ 3) : T.typeOf G = .ok t := by
  have hc : ctxErr G = 0 := by
    unfold ctxErr
    rw [if_neg (by omega)]
    clear h hG
    induction G with
    | nil => rfl
    | cons U r ih =>
      unfold errs
      have h0 := hok U (by simp)
      have e : U.err = 0 := err_zero.2 ⟨h0.1, by omega⟩
      rw [if_pos e]
      exact ih (fun V hV => hok V (by simp [hV]))
  unfold Tm.typeOf
  rw [if_pos hc, if_pos (errT_zero.2 ⟨h.ok, by have := h.size; omega⟩), h.typ]
theorem nodesAll_small {G : List Ty} (hok : ∀ U ∈ G, U.ok = true ∧ U.nodes ≤ 3) : nodesAll G ≤ 3 * G.length := by
  induction G with
  | nil => simp [nodesAll]
  | cons U r ih =>
    have h0 := (hok U (by simp)).2
    have := ih (fun V hV => hok V (by simp [hV]))
    simp only [nodesAll, List.length_cons]; omega
theorem Made.more {G : List Ty} {t : Ty} {a p : Nat} {T : Tm} (h : Made G t a p T) (L : List Ty) : Made (L ++ G) t a p T := { h with typ := typ_more L T G h.typ }
theorem type_three {S : Ty} (h : S.nodes + 1 ≤ 2 ^ (1 + 1)) : S.nodes ≤ 3 := by simp at h; omega
end Go.Proofs.YtifijgihcincfaaDoor
namespace Go.Proofs.YtifijgihcincfaaDoor
open Go.RowKit

theorem bdN3 (t : Ty) : bdN 3 t ≤ 276 := by unfold bdN; split <;> decide
theorem bdO3 (t : Ty) : bdO 3 t ≤ 35 := by unfold bdO; split <;> decide
/-- A closed term, and its type. -/
def ClosedR (g : Nat) (w : World) (e : Ending) (w' : World) : Prop :=
  ∃ (x : Tm) (S : Ty) (vx vs : Value), e = .returned (.tuple #[vx, vs]) ∧ Made [] S 276 35 x ∧ S.ok = true ∧ S.nodes ≤ 3 ∧ Trm w.heap.size w' x vx ∧ Typ g w' S vs ∧ Deck w' g ∧ Turn (· = g) w w'

end Go.Proofs.YtifijgihcincfaaDoor
namespace Go.Proofs.YtifijgihcincfaaDoor
open Go.RowKit

set_option maxRecDepth 100000 in
set_option maxHeartbeats 4000000 in
theorem sameT_refl (n : Nat) : ∀ (t : Tm) (u v : Value) (w : World), t.bulk ≤ n → n ≤ 400000 → IsTm (· < w.heap.size) w t u → IsTm (· < w.heap.size) w t v →
    Calls Tryd.prog 15 #[u, v] w fun e w' => e = .returned (.bool true) ∧ Below w.heap.size w w' := by
  induction n with
  | zero => intro t; have := bulk_pos t; omega
  | succ n ih =>
    rintro ⟨k, i, T, l⟩ u v w hn hb hu hv
    obtain ⟨B, d, A, c, rfl, hT, hl⟩ := hu.mk_parts
    obtain ⟨B', d', A', c', rfl, hT', hl'⟩ := hv.mk_parts
    have hll := bulkAll_len l
    simp only [Tm.bulk] at hn
    have IH := Lib.hid ih
    have HL := Lib.hid (And.intro hl hl')
    obtain ⟨b1, z1, k1⟩ := new_blk (Below.refl w.heap.size w) (Nat.le_refl _) #[.int .i64 k, .int .i64 i, .int .i64 T.kind, .slice B T.args.length d, .slice A l.length c] 34
    obtain ⟨b2, z2, k2⟩ := new_blk b1 b1.size #[.int .i64 k, .int .i64 i, .int .i64 T.kind, .slice B' T.args.length d', .slice A' l.length c'] 34
    have k1 := k1.alloc (Obj.cells #[.int .i64 k, .int .i64 i, .int .i64 T.kind, .slice B' T.args.length d', .slice A' l.length c'] 34)
    rw [z1] at k2 z2
    obtain ⟨W, hW⟩ : ∃ W, W = (w.alloc (Obj.cells #[.int .i64 k, .int .i64 i, .int .i64 T.kind, .slice B T.args.length d, .slice A l.length c] 34)).alloc (Obj.cells #[.int .i64 k, .int .i64 i, .int .i64 T.kind, .slice B' T.args.length d', .slice A' l.length c'] 34) := ⟨_, rfl⟩
    rw [← hW] at b2 z2 k1 k2
    have HTY := Lib.hid (And.intro (hT.boxed' b2) (hT'.boxed' b2))
    have hTn : T.nodes ≤ 400000 := by omega
    have HKK := Lib.hid (And.intro k1 (And.intro k2 b2))
    obtain ⟨p0, p1, p2, p3, p4, _⟩ := k1.facts5
    obtain ⟨s0, s1, s2, s3, s4, _⟩ := k2.facts5
    clear hu hv hT hT' hl hl' ih b1 z1 k1 k2
    go_enter Tryd.func15, Tryd.ntmps15
    go_wp2_with fail
    rw [← hW]
    clear hW
    refine (refSame_any 400000 T T _ _ W hTn (Nat.le_refl _) HTY.out.1 HTY.out.2 hTn).mono ?_
    rintro e W1 ⟨rfl, hbW⟩
    rw [eqb_self]
    have HBW := Lib.hid hbW
    have HK2 := Lib.hid (And.intro (HKK.out.1.below hbW HKK.out.1.lt) (And.intro (HKK.out.2.1.below hbW HKK.out.2.1.lt) (HKK.out.2.2.trans (hbW.mono HKK.out.2.2.size))))
    obtain ⟨_, _, _, _, q4, _⟩ := HK2.out.1.facts5
    obtain ⟨_, _, _, _, r4, _⟩ := HK2.out.2.1.facts5
    clear hbW p0 p1 p2 p3 p4 s0 s1 s2 s3 s4
    go_wp2_with fail
    go_loopw [38] (fun ix wr => ∃ j : Nat, j ≤ l.length ∧ ix = .int .i64 j ∧ Below W1.heap.size W1 wr) (fun ix _ => l.length - (intOf ix).toNat)
    case atStart => exact ⟨0, by omega, rfl, Below.refl _ _⟩
    case round =>
      obtain ⟨j, hj, rfl, hbel⟩ := hrel
      have hws := hbel.size
      have hB2 : Below w.heap.size w wr := HK2.out.2.2.trans (hbel.mono HK2.out.2.2.size)
      by_cases hlt : j < l.length
      · have hl1 : TmR.Sl (· < w.heap.size) wr l (.slice A l.length c) := HL.out.1.keep (fun _ h => h) (fun p hp => hB2.cell hp)
        have hm1 : TmR.Sl (· < w.heap.size) wr l (.slice A' l.length c') := HL.out.2.keep (fun _ h => h) (fun p hp => hB2.cell hp)
        obtain ⟨a, rfl, ha, hat⟩ := hl1.get j hlt
        obtain ⟨a', rfl, ha', hat'⟩ := hm1.get j hlt
        obtain ⟨B1, d1, A1, c1, q0, q1, q2, q3, q4', hx⟩ := at_tm hat
        obtain ⟨B2, d2, A2, c2, r0, r1, r2, r3, r4', hy⟩ := at_tm hat'
        simp only [show TmR.n = 5 from rfl] at q0 q1 q2 q3 q4' r0 r1 r2 r3 r4'
        have hnj := bulkAll_get l j hlt
        have hab : (a.add (j * 5)).block < w.heap.size := by rw [add_block]; exact ha
        have hab' : (a'.add (j * 5)).block < w.heap.size := by rw [add_block]; exact ha'
        have hwz := hB2.size
        have k1 := HK2.out.1.below hbel HK2.out.1.lt
        have k2 := HK2.out.2.1.below hbel HK2.out.2.1.lt
        have HSK := Lib.hid fun (w1 : World) (h : Below wr.heap.size wr w1) => And.intro (k1.below h k1.lt).facts5.2.2.2.2.1 (And.intro (k2.below h k2.lt).facts5.2.2.2.2.1
          (And.intro ((h.cell (p := a.add (j * 5)) (by omega)).trans q0) (And.intro ((h.cell (p := ⟨(a.add (j * 5)).block, (a.add (j * 5)).off + 1, none⟩) (by show (a.add (j * 5)).block < _; omega)).trans q1)
            (And.intro ((h.cell (p := ⟨(a.add (j * 5)).block, (a.add (j * 5)).off + 2, none⟩) (by show (a.add (j * 5)).block < _; omega)).trans q2) (And.intro ((h.cell (p := ⟨(a.add (j * 5)).block, (a.add (j * 5)).off + 3, none⟩) (by show (a.add (j * 5)).block < _; omega)).trans q3)
              (And.intro ((h.cell (p := ⟨(a.add (j * 5)).block, (a.add (j * 5)).off + 4, none⟩) (by show (a.add (j * 5)).block < _; omega)).trans q4')
          (And.intro ((h.cell (p := a'.add (j * 5)) (by omega)).trans r0) (And.intro ((h.cell (p := ⟨(a'.add (j * 5)).block, (a'.add (j * 5)).off + 1, none⟩) (by show (a'.add (j * 5)).block < _; omega)).trans r1)
            (And.intro ((h.cell (p := ⟨(a'.add (j * 5)).block, (a'.add (j * 5)).off + 2, none⟩) (by show (a'.add (j * 5)).block < _; omega)).trans r2) (And.intro ((h.cell (p := ⟨(a'.add (j * 5)).block, (a'.add (j * 5)).off + 3, none⟩) (by show (a'.add (j * 5)).block < _; omega)).trans r3)
              ((h.cell (p := ⟨(a'.add (j * 5)).block, (a'.add (j * 5)).off + 4, none⟩) (by show (a'.add (j * 5)).block < _; omega)).trans r4')))))))))))
        have ARM := Lib.hid (show Calls Tryd.prog 15 #[.agg #[.int .i64 l[j].kind, .int .i64 l[j].index, .int .i64 l[j].type.kind, .slice B1 l[j].type.args.length d1, .slice A1 l[j].args.length c1],
            .agg #[.int .i64 l[j].kind, .int .i64 l[j].index, .int .i64 l[j].type.kind, .slice B2 l[j].type.args.length d2, .slice A2 l[j].args.length c2]] wr.drew fun e w' => e = .returned (.bool true) ∧ Below wr.heap.size wr w' by
          refine (IH.out l[j] _ _ wr.drew (by omega) (by omega) (hx.keep (fun b h => Nat.lt_of_lt_of_le h hwz) (fun p _ => World.cell?_drew _ p)) (hy.keep (fun b h => Nat.lt_of_lt_of_le h hwz) (fun p _ => World.cell?_drew _ p))).mono ?_
          rintro e w1 ⟨h1, h2⟩
          exact ⟨h1, ((Below.refl _ wr).drew).trans h2⟩)
        obtain ⟨m0, m1, _⟩ := HSK.out wr (Below.refl _ _)
        have HBL := Lib.hid hbel
        clear hl1 hm1 hat hat' hx hy k1 k2 q0 q1 q2 q3 q4' r0 r1 r2 r3 r4' hbel hB2
        go_wp2_with fail
        go_region_held3 (fun w' => w'.cell? ⟨w.heap.size, 4, none⟩ = some (.slice (some a) l.length c) ∧ w'.cell? ⟨w.heap.size + 1, 4, none⟩ = some (.slice (some a') l.length c') ∧
            w'.cell? (a.add (j * 5)) = some (.int .i64 l[j].kind) ∧ w'.cell? ⟨(a.add (j * 5)).block, (a.add (j * 5)).off + 1, none⟩ = some (.int .i64 l[j].index) ∧ w'.cell? ⟨(a.add (j * 5)).block, (a.add (j * 5)).off + 2, none⟩ = some (.int .i64 l[j].type.kind) ∧
            w'.cell? ⟨(a.add (j * 5)).block, (a.add (j * 5)).off + 3, none⟩ = some (.slice B1 l[j].type.args.length d1) ∧ w'.cell? ⟨(a.add (j * 5)).block, (a.add (j * 5)).off + 4, none⟩ = some (.slice A1 l[j].args.length c1) ∧
            w'.cell? (a'.add (j * 5)) = some (.int .i64 l[j].kind) ∧ w'.cell? ⟨(a'.add (j * 5)).block, (a'.add (j * 5)).off + 1, none⟩ = some (.int .i64 l[j].index) ∧ w'.cell? ⟨(a'.add (j * 5)).block, (a'.add (j * 5)).off + 2, none⟩ = some (.int .i64 l[j].type.kind) ∧
            w'.cell? ⟨(a'.add (j * 5)).block, (a'.add (j * 5)).off + 3, none⟩ = some (.slice B2 l[j].type.args.length d2) ∧ w'.cell? ⟨(a'.add (j * 5)).block, (a'.add (j * 5)).off + 4, none⟩ = some (.slice A2 l[j].args.length c2))
          (first | with_reducible exact HSK.out _ (Below.refl _ _).drew | with_reducible exact HSK.out _ HB1.out | go_keep)
          (first
            | (go_at_call 15
               (with_reducible refine ARM.out.mono ?_)
               rintro e w1 ⟨rfl, hb1⟩
               have HB1 := Lib.hid hb1
               clear hb1))
        go_wp2_with fail
        exact ⟨⟨j + 1, by omega, by go_num, HBL.out.trans (HB1.out.mono hws)⟩, by simp [intOf]; omega⟩
      · have hjl : j = l.length := by omega
        subst hjl
        clear hbel
        go_wp2_with fail
        go_ret
        exact ⟨rfl, hB2⟩
end Go.Proofs.YtifijgihcincfaaDoor
namespace Go.Proofs.YtifijgihcincfaaDoor
open Go.RowKit

theorem sane_put1 : (Tm.mk 5 0 .zero [.mk 1 0 .zero []]).put 0 (.mk 4 0 .zero []) = .mk 5 0 .zero [.mk 4 0 .zero []] := by rfl
theorem sane_put2 : (Tm.mk 2 0 tyNat [.mk 1 1 .zero []]).put 0 (.mk 1 3 .zero []) = .mk 2 0 tyNat [.mk 1 4 .zero []] := by rfl

/-- subst.Put where what comes of it is small. -/
theorem putTop_is {t s U : Tm} {v u : Value} {w : World} (hU : t.put 0 s = U) (hsz : U.size ≤ 4096) (hb : t.bulk ≤ 390000) (hsb : s.bulk ≤ 390000) (he : t.err = 0) (hse : s.err = 0) (hlow : t.low 536870912 = true) (hslow : s.low 536870912 = true) (htab : Tab w) (hT : IsTm (· < w.heap.size) w t v) (hS : IsTm (· < w.heap.size) w s u) :
    Calls Tryd.prog 117 #[v, .int .i64 0, u] w fun e w' => ∃ v', e = .returned (.tuple #[v', .int .i64 0]) ∧ IsTm (· < w'.heap.size) w' U v' ∧ Below w.heap.size w w' := by
  subst hU
  refine (putTop_any t s v u 0 (· < w.heap.size) w hb hsb he hse hlow hslow (by omega) htab (fun _ h => h) hT hS).mono ?_
  rintro e w' h
  unfold PutR at h
  rw [if_pos hsz] at h
  obtain ⟨v', h1, h2, h3⟩ := h
  exact ⟨v', h1, h2.keep (fun b h => h.2) (fun _ _ => rfl), h3⟩

theorem sl_new_tm {w : World} {T : Tm} {B A : Option Addr} {d c : Nat} (h : IsTm (· < w.heap.size) w T (.agg #[.int .i64 T.kind, .int .i64 T.index, .int .i64 T.type.kind, .slice B T.type.args.length d, .slice A T.args.length c])) :
    TmR.Sl (· < (w.alloc (Obj.cells #[.int .i64 T.kind, .int .i64 T.index, .int .i64 T.type.kind, .slice B T.type.args.length d, .slice A T.args.length c] 34)).heap.size) (w.alloc (Obj.cells #[.int .i64 T.kind, .int .i64 T.index, .int .i64 T.type.kind, .slice B T.type.args.length d, .slice A T.args.length c] 34)) [T] (.slice (some ⟨w.heap.size, 0, none⟩) 1 1) :=
  Rep.Sl.of_blk (R := TmR) (Blk.new w 34 _) (tm_one (IsTm.keep (fun b h => by have h' : b < w.heap.size := h; simp; omega) (fun p hp => World.cell?_alloc_lt _ _ _ hp) _ h)) (fun _ h => h) (by simp) rfl
theorem sl_new_var {w : World} (i : Int) : TmR.Sl (· < (w.alloc (Obj.cells #[.int .i64 1, .int .i64 i, .int .i64 0, .slice none 0 0, .slice none 0 0] 34)).heap.size) (w.alloc (Obj.cells #[.int .i64 1, .int .i64 i, .int .i64 0, .slice none 0 0, .slice none 0 0] 34)) [.mk 1 i .zero []] (.slice (some ⟨w.heap.size, 0, none⟩) 1 1) :=
  Rep.Sl.of_blk (R := TmR) (Blk.new w 34 _) (tm_one (var_is _ _ i)) (fun _ h => h) (by simp) rfl

end Go.Proofs.YtifijgihcincfaaDoor
namespace Go.Proofs.YtifijgihcincfaaDoor
open Go.RowKit

theorem sane_next : (Tm.mk 3 0 .zero [.mk 2 0 tyNat [.mk 5 0 .zero [.mk 1 0 .zero []]], .mk 4 0 .zero []]).next = some (.mk 5 0 .zero [.mk 4 0 .zero []]) := by rfl
set_option maxRecDepth 100000 in
set_option maxHeartbeats 4000000 in
theorem saneR_any (w : World) (htab : Tab w) : Calls Tryd.prog 6 #[] w fun e w' => e = .returned (.bool true) ∧ Below w.heap.size w w' := by
  have HTab := Lib.hid htab
  clear htab
  go_enter Tryd.func6, Tryd.ntmps6
  go_wp2_with fail
  refine (nat_any _).mono ?_
  rintro e w0 ⟨rfl, hb0⟩
  go_wp2_with fail
  refine (var_any 0 w0).mono ?_
  rintro e w1 ⟨rfl, hb1⟩
  have hb01 := hb0.trans (hb1.mono hb0.size)
  have HB1 := Lib.hid hb01
  have HS1 := Lib.hid (sl_new_var (w := w1) 0)
  have HQ1 := Lib.hid (hb01.alloc hb01.size (Obj.cells #[.int .i64 1, .int .i64 0, .int .i64 0, .slice none 0 0, .slice none 0 0] 34))
  clear hb0 hb1 hb01
  go_wp2_with fail
  obtain ⟨ts, hts⟩ : ∃ t, Hid (t = Tm.mk 5 0 .zero [.mk 1 0 .zero []]) := ⟨_, Lib.hid rfl⟩
  refine (n_any 5 [.mk 1 0 .zero []] _ _ (by decide) HS1.out).mono ?_
  rintro e w3 ⟨v3, rfl, ht3, hb3⟩
  rw [← hts.out] at ht3
  obtain ⟨B3, d3, A3, c3, rfl, _⟩ := ht3.form
  have HB3 := Lib.hid (HQ1.out.trans (hb3.mono HQ1.out.size))
  have HQ3 := Lib.hid (HB3.out.alloc HB3.out.size (Obj.cells #[.int .i64 ts.kind, .int .i64 ts.index, .int .i64 ts.type.kind, .slice B3 ts.type.args.length d3, .slice A3 ts.args.length c3] 34))
  have HT3 := Lib.hid (sl_new_tm (w := w3) (T := ts) (IsTm.keep (fun b h => h.2) (fun _ _ => rfl) _ ht3))
  have hbs : bulkAll [ts] ≤ 400000 := by rw [hts.out]; decide
  clear ht3 hb3
  go_wp2_with fail
  obtain ⟨tl, htl⟩ : ∃ t, Hid (t = Tm.mk 2 0 tyNat [ts]) := ⟨_, Lib.hid rfl⟩
  refine (t_any 2 tyNat [ts] _ _ _ (by decide) hbs (IsTy.leaf _ _ 1) HT3.out).mono ?_
  rintro e w4 ⟨v4, rfl, ht4, hb4⟩
  rw [← htl.out] at ht4
  obtain ⟨B4, d4, A4, c4, rfl, _⟩ := ht4.form
  have HB4 := Lib.hid (HQ3.out.trans (hb4.mono HQ3.out.size))
  have HT4 := Lib.hid (show IsTm (· < w4.heap.size) w4 tl _ from IsTm.keep (fun b h => h.2) (fun _ _ => rfl) _ ht4)
  clear ht4 hb4
  go_wp2_with fail
  obtain ⟨tz, htz⟩ : ∃ t, Hid (t = Tm.mk 4 0 .zero []) := ⟨_, Lib.hid rfl⟩
  refine (n_any 4 [] _ w4 (by decide) (Rep.Sl.nil _ _)).mono ?_
  rintro e w5 ⟨v5, rfl, ht5, hb5⟩
  rw [← htz.out] at ht5
  obtain ⟨B5, d5, A5, c5, rfl, _⟩ := ht5.form
  have HB5 := Lib.hid (HB4.out.trans (hb5.mono HB4.out.size))
  have HQ5 := Lib.hid (HB5.out.alloc HB5.out.size (Obj.cells #[.int .i64 tl.kind, .int .i64 tl.index, .int .i64 tl.type.kind, .slice B4 tl.type.args.length d4, .slice A4 tl.args.length c4, .int .i64 tz.kind, .int .i64 tz.index, .int .i64 tz.type.kind, .slice B5 tz.type.args.length d5, .slice A5 tz.args.length c5] 34))
  have HT5 := Lib.hid (tm_sl2 (HT4.out.keep (fun b h => Nat.lt_of_lt_of_le h hb5.size) (fun p hp => hb5.cell hp)) (show IsTm (· < w5.heap.size) w5 tz _ from IsTm.keep (fun b h => h.2) (fun _ _ => rfl) _ ht5))
  have hbl : bulkAll [tl, tz] ≤ 400000 := by rw [htl.out, htz.out, hts.out]; decide
  clear ht5 hb5
  go_wp2_with fail
  obtain ⟨tx, htx⟩ : ∃ t, Hid (t = Tm.mk 3 0 .zero [tl, tz]) := ⟨_, Lib.hid rfl⟩
  refine (n_any 3 [tl, tz] _ _ hbl HT5.out).mono ?_
  rintro e w6 ⟨v6, rfl, ht6, hb6⟩
  rw [← htx.out] at ht6
  have HB6 := Lib.hid (HQ5.out.trans (hb6.mono HQ5.out.size))
  have HT6 := Lib.hid (show IsTm (· < w6.heap.size) w6 tx _ from IsTm.keep (fun b h => h.2) (fun _ _ => rfl) _ ht6)
  have HX := Lib.hid (show tx = Tm.mk 3 0 .zero [.mk 2 0 tyNat [.mk 5 0 .zero [.mk 1 0 .zero []]], .mk 4 0 .zero []] by rw [htx.out, htl.out, htz.out, hts.out])
  clear ht6 hb6 htx htl htz hts hbs hbl HQ1 HQ3 HQ5 HT3 HT4 HT5 HS1 HB1 HB3 HB4 HB5
  go_wp2_with fail
  refine (stepTop_any tx _ (· < w6.heap.size) w6 (by rw [HX.out]; decide) (by rw [HX.out]; decide) (by rw [HX.out]; decide) (HTab.out.after HB6.out) (fun _ h => h) HT6.out).mono ?_
  rintro e w7 ⟨hb7, h7⟩
  obtain ⟨ta, hta⟩ : ∃ t, t = Tm.mk 5 0 .zero [.mk 4 0 .zero []] := ⟨_, rfl⟩
  have hnx : tx.next = some ta := by rw [HX.out, hta]; exact sane_next
  have h7' : ∃ v7, e = .returned (.tuple #[v7, .bool true, .int .i64 0]) ∧ IsTm (· < w7.heap.size) w7 ta v7 := by
    rcases h7 with ⟨u, v', rfl, hu, h1, _⟩ | ⟨v', _, _, h1⟩ | ⟨_, x, h1, h2⟩
    · rw [hnx] at h1
      cases h1
      exact ⟨v', rfl, IsTm.keep (fun b h => h.2) (fun _ _ => rfl) _ hu⟩
    · rw [hnx] at h1; cases h1
    · rw [hnx] at h1
      cases h1
      rw [hta] at h2
      exact absurd h2 (by decide)
  obtain ⟨v7, rfl, ht7⟩ := h7'
  obtain ⟨B7, d7, A7, c7, rfl, _⟩ := ht7.form
  have HB7 := Lib.hid (HB6.out.trans (hb7.mono HB6.out.size))
  have HT7 := Lib.hid ht7
  have HA := Lib.hid hta
  have HZ7 := Lib.hid (Below.refl w7.heap.size w7)
  clear hb7 h7 hta hnx ht7
  go_upto_region 2 with fail
  obtain ⟨b8, z8, k8⟩ := new_blk HB7.out HB7.out.size #[.int .i64 ta.kind, .int .i64 ta.index, .int .i64 ta.type.kind, .slice B7 ta.type.args.length d7, .slice A7 ta.args.length c7] 34
  obtain ⟨W, hW⟩ : ∃ W, W = w7.alloc (Obj.cells #[.int .i64 ta.kind, .int .i64 ta.index, .int .i64 ta.type.kind, .slice B7 ta.type.args.length d7, .slice A7 ta.args.length c7] 34) := ⟨_, rfl⟩
  rw [← hW] at b8 z8 k8
  rw [← hW]
  have HTA := Lib.hid (show IsTm (· < W.heap.size) W ta _ from HT7.out.keep (fun b h => by have h' : b < w7.heap.size := h; omega) (fun p hp => by rw [hW]; exact World.cell?_alloc_lt _ _ _ hp))
  have HK := Lib.hid k8
  have HBW := Lib.hid b8
  clear b8 z8 k8 hW HT7 HT6 HZ7
  have HAB := Lib.hid (show ta.bulk ≤ 400000 by rw [HA.out]; decide)
  have GD := Lib.hid ((Below.refl W.heap.size W).drew)
  have HSK := Lib.hid fun (w1 : World) (h : Below W.heap.size W w1) => And.intro h (And.intro (HK.out.below h HK.out.lt).facts5.1 (And.intro (HK.out.below h HK.out.lt).facts5.2.1 (And.intro (HK.out.below h HK.out.lt).facts5.2.2.1 (And.intro (HK.out.below h HK.out.lt).facts5.2.2.2.1 (HK.out.below h HK.out.lt).facts5.2.2.2.2.1))))
  go_region_held3 (fun w' => Below W.heap.size W w' ∧ w'.cell? ⟨w7.heap.size, 0, none⟩ = some (.int .i64 ta.kind) ∧ w'.cell? ⟨w7.heap.size, 1, none⟩ = some (.int .i64 ta.index) ∧ w'.cell? ⟨w7.heap.size, 2, none⟩ = some (.int .i64 ta.type.kind) ∧ w'.cell? ⟨w7.heap.size, 3, none⟩ = some (.slice B7 ta.type.args.length d7) ∧ w'.cell? ⟨w7.heap.size, 4, none⟩ = some (.slice A7 ta.args.length c7))
    (first | with_reducible exact HSK.out _ GD.out | with_reducible exact HSK.out _ G14.out | with_reducible exact HSK.out _ Q14.out | with_reducible exact HSK.out _ G15.out | with_reducible exact HSK.out _ G16.out | go_keep)
    (first
      | (go_at_call 15
         (with_reducible refine (sameT_refl 400000 ta _ _ w15 HAB.out (Nat.le_refl _) (HTA.out.keep (fun b h => Nat.lt_of_lt_of_le h G15.out.size) (fun p hp => G15.out.cell hp)) T15.out).mono ?_)
         rintro e w16 ⟨rfl, hb16⟩
         have G16 := Lib.hid (show Below W.heap.size W w16 from G15.out.trans (hb16.mono G15.out.size))
         clear hb16)
      | (go_at_call 13
         (with_reducible refine (n_any 5 [tz] (.slice (some ⟨w14.heap.size, 0, none⟩) 1 1) (w14.alloc (Obj.cells #[.int .i64 tz.kind, .int .i64 tz.index, .int .i64 tz.type.kind, .slice B14 tz.type.args.length d14, .slice A14 tz.args.length c14] 34)) HZB.out S14.out).mono ?_)
         rintro e w15 ⟨v15, rfl, ht15, hb15⟩
         rw [HZ.out, ← HA.out] at ht15
         obtain ⟨B15, d15, A15, c15, rfl, _⟩ := ht15.form
         have G15 := Lib.hid (show Below W.heap.size W w15 from Q14.out.trans (hb15.mono Q14.out.size))
         have T15 := Lib.hid (show IsTm (· < w15.heap.size) w15 ta _ from IsTm.keep (fun b h => h.2) (fun _ _ => rfl) _ ht15)
         clear ht15 hb15)
      | (go_at_call 13
         (with_reducible refine (n_any 4 [] (.slice none 0 0) W.drew (by decide) (Rep.Sl.nil _ _)).mono ?_)
         rintro e w14 ⟨v14, rfl, ht14, hb14⟩
         obtain ⟨tz, htz⟩ : ∃ t, t = Tm.mk 4 0 .zero [] := ⟨_, rfl⟩
         rw [← htz] at ht14
         obtain ⟨B14, d14, A14, c14, rfl, _⟩ := ht14.form
         have HZ := Lib.hid htz
         have G14 := Lib.hid (show Below W.heap.size W w14 from (Below.refl W.heap.size W).drew.trans hb14)
         have Q14 := Lib.hid (G14.out.alloc G14.out.size (Obj.cells #[.int .i64 tz.kind, .int .i64 tz.index, .int .i64 tz.type.kind, .slice B14 tz.type.args.length d14, .slice A14 tz.args.length c14] 34))
         have S14 := Lib.hid (sl_new_tm (w := w14) (T := tz) (IsTm.keep (fun b h => h.2) (fun _ _ => rfl) _ ht14))
         have HZB := Lib.hid (show bulkAll [tz] ≤ 400000 by rw [htz]; decide)
         clear ht14 hb14 htz))
  go_wp2_with fail
  go_ret
  exact ⟨rfl, HBW.out.trans (G16.out.mono HBW.out.size)⟩
end Go.Proofs.YtifijgihcincfaaDoor
namespace Go.Proofs.YtifijgihcincfaaDoor
open Go.RowKit

theorem made_low6 {G : List Ty} {t : Ty} {a p : Nat} {T : Tm} (h : Made G t a p T) (hG : G.length ≤ 1000) (ha : a ≤ 4096) : T.low 1000000 = true :=
  low_mono (by have := h.size; omega) T (typ_low T G h.ok h.typ)
theorem made_err6 {G : List Ty} {t : Ty} {a p : Nat} {T : Tm} (h : Made G t a p T) (ha : a ≤ 4096) : T.err = 0 := errT_zero.2 ⟨h.ok, by have := h.size; omega⟩
end Go.Proofs.YtifijgihcincfaaDoor
namespace Go.Proofs.YtifijgihcincfaaDoor
open Go.RowKit

theorem iter_same {t a c : Tm} {n m : Nat} (ha : t.iter n = some a) (hc : t.iter m = some c) (h1 : a.next = none) (h2 : c.next = none) : n = m ∧ a = c := by
  have key : ∀ {n m : Nat} {a c : Tm}, n ≤ m → t.iter n = some a → t.iter m = some c → a.next = none → n = m ∧ a = c := fun {n m a c} hle ha hc h1 => by
    obtain ⟨k, rfl⟩ := Nat.exists_eq_add_of_le hle
    rw [iter_add, ha, Option.bind_some] at hc
    cases k with
    | zero => rw [Tm.iter] at hc; exact ⟨rfl, Option.some.inj hc⟩
    | succ k => rw [Tm.iter, h1] at hc; cases hc
  rcases Nat.le_total n m with h | h
  · exact key h ha hc h1
  · obtain ⟨e1, e2⟩ := key h hc ha h2
    exact ⟨e1.symm, e2.symm⟩
theorem next_pair1 {i : Int} {T : Ty} {x u z : Tm} (h : x.next = some u) : (Tm.mk 10 i T [x, z]).next = some (.mk 10 i T [u, z]) := by
  have := next_at (k := 10) (i := i) (T := T) (l := [x, z]) (j := 0) (u := u) rfl (by simp) (fun i hi h => by omega) h
  simpa using this
theorem next_pair2 {i : Int} {T : Ty} {x z u : Tm} (hx : x.next = none) (h : z.next = some u) : (Tm.mk 10 i T [x, z]).next = some (.mk 10 i T [x, u]) := by
  have := next_at (k := 10) (i := i) (T := T) (l := [x, z]) (j := 1) (u := u) rfl (by simp) (fun i hi h => by
    have : i = 0 := by omega
    subst this
    simpa using hx) (by simpa using h)
  simpa using this
theorem next_lam {i : Int} {T : Ty} {x u : Tm} (h : x.next = some u) : (Tm.mk 2 i T [x]).next = some (.mk 2 i T [u]) := by
  have := next_at (k := 2) (i := i) (T := T) (l := [x]) (j := 0) (u := u) rfl (by simp) (fun i hi h => by omega) h
  simpa using this
theorem iter_pair1 {i : Int} {T : Ty} {z : Tm} : ∀ (n : Nat) {x a : Tm}, x.iter n = some a → (Tm.mk 10 i T [x, z]).iter n = some (.mk 10 i T [a, z])
  | 0, x, a, h => by rw [Tm.iter] at h ⊢; cases h; rfl
  | n + 1, x, a, h => by
    rw [Tm.iter] at h ⊢
    cases hx : x.next with
    | none => rw [hx] at h; cases h
    | some u => rw [hx] at h; rw [next_pair1 hx]; exact iter_pair1 n h
theorem iter_pair2 {i : Int} {T : Ty} {x : Tm} (hx : x.next = none) : ∀ (n : Nat) {z b : Tm}, z.iter n = some b → (Tm.mk 10 i T [x, z]).iter n = some (.mk 10 i T [x, b])
  | 0, z, b, h => by rw [Tm.iter] at h ⊢; cases h; rfl
  | n + 1, z, b, h => by
    rw [Tm.iter] at h ⊢
    cases hz : z.next with
    | none => rw [hz] at h; cases h
    | some u => rw [hz] at h; rw [next_pair2 hx hz]; exact iter_pair2 hx n h
theorem iter_lam {i : Int} {T : Ty} : ∀ (n : Nat) {z b : Tm}, z.iter n = some b → (Tm.mk 2 i T [z]).iter n = some (.mk 2 i T [b])
  | 0, z, b, h => by rw [Tm.iter] at h ⊢; cases h; rfl
  | n + 1, z, b, h => by
    rw [Tm.iter] at h ⊢
    cases hz : z.next with
    | none => rw [hz] at h; cases h
    | some u => rw [hz] at h; rw [next_lam hz]; exact iter_lam n h
theorem lam_none {i : Int} {T : Ty} {b : Tm} (h : b.next = none) : (Tm.mk 2 i T [b]).next = none := next_none rfl fun i hi => by
  have : i = 0 := by simpa using hi
  subst this
  simpa using h
theorem pair_none {i : Int} {T : Ty} {a b : Tm} (ha : a.next = none) (hb : b.next = none) : (Tm.mk 10 i T [a, b]).next = none := next_none rfl fun i hi => by
  have : i = 0 ∨ i = 1 := by simp at hi; omega
  rcases this with rfl | rfl
  · simpa using ha
  · simpa using hb
/-- The normal form of a pair of a term and a function is that of the parts, in as many steps as both take. -/
theorem parts_iter {S : Ty} {x a y b : Tm} {m n : Nat} (hx : x.iter m = some a) (ha : a.next = none) (hy : y.iter n = some b) (hb : b.next = none) :
    (Tm.mk 10 0 .zero [x, .mk 2 0 S [y]]).iter (m + n) = some (.mk 10 0 .zero [a, .mk 2 0 S [b]]) ∧ (Tm.mk 10 0 .zero [a, .mk 2 0 S [b]]).next = none := by
  refine ⟨?_, pair_none ha (lam_none hb)⟩
  rw [iter_add, iter_pair1 m hx, Option.bind_some]
  exact iter_pair2 ha n (iter_lam n hy)
theorem ends_ok {lim n : Nat} {t u : Tm} (h : Ends 0 (fun _ => false) lim n t u 0) : t.iter n = some u ∧ u.next = none ∧ n ≤ lim := by
  refine ⟨h.1.iter, ?_, h.2.1⟩
  rcases h.2.2 with ⟨_, h | h⟩ | ⟨_, h | h⟩
  · exact h
  · cases h
  · exact absurd h.1 (by decide)
  · exact absurd h.1 (by decide)
theorem parts_ends {S : Ty} {x a y b u : Tm} {m n k : Nat} {e : Int} (hx : Ends 0 (fun _ => false) 300 m x a 0) (hy : Ends 0 (fun _ => false) 300 n y b 0) (h : Ends 0 (fun _ => false) 700 k (.mk 10 0 .zero [x, .mk 2 0 S [y]]) u e) :
    e = 4 ∨ (e = 0 ∧ k = m + n ∧ u = .mk 10 0 .zero [a, .mk 2 0 S [b]]) := by
  obtain ⟨x1, x2, x3⟩ := ends_ok hx
  obtain ⟨y1, y2, y3⟩ := ends_ok hy
  obtain ⟨p1, p2⟩ := parts_iter (S := S) x1 x2 y1 y2
  rcases h.2.2 with ⟨rfl, hn | hn⟩ | ⟨_, ⟨rfl, hk, hn⟩ | ⟨rfl, _⟩⟩
  · obtain ⟨e1, e2⟩ := iter_same h.1.iter p1 hn p2
    exact .inr ⟨rfl, e1, e2⟩
  · cases hn
  · exfalso
    have h1 := h.1.iter
    obtain ⟨d, hd⟩ := Nat.exists_eq_add_of_le (show m + n + 1 ≤ k by omega)
    rw [hd, Nat.add_assoc, iter_add, p1, Option.bind_some, Nat.add_comm 1 d, Tm.iter, p2] at h1
    cases h1
  · exact .inl rfl
end Go.Proofs.YtifijgihcincfaaDoor
namespace Go.Proofs.YtifijgihcincfaaDoor
section
variable {P : Program} {ops : Array Oper} {Q : Exit → Act → World → Prop}

/-- The edges of a region lead back. -/
def backs (ops : Array Oper) : Bool := (List.range ops.size).all fun i => match ops[i]? with | some o => o.after.all (fun e => !Region.binds .any e || decide (e.on < i)) | none => true
/-- How many have not come up. -/
def leftOf (listed : Array Bool) : Nat := listed.toList.countP (fun b => !b)

theorem getD_listed {listed : Array Bool} {i : Nat} (h : i < listed.size) (d : Bool) : listed.getD i d = listed[i] := by simp [Array.getD, h]
theorem leftOf_set {listed : Array Bool} {i : Nat} (hi : i < listed.size) (h : listed.getD i false = false) : leftOf (listed.setIfInBounds i true) + 1 = leftOf listed := by
  rw [getD_listed hi] at h
  unfold leftOf
  rw [Array.toList_setIfInBounds, List.countP_set (by simpa using hi)]
  have h1 : 0 < listed.toList.countP (fun b => !b) := List.countP_pos_iff.2 ⟨false, by rw [← h]; simp, rfl⟩
  simp only [Array.getElem_toList, h, Bool.not_false, if_true, Bool.not_true, Bool.false_eq_true, if_false, Nat.add_zero]
  omega
theorem leftOf_zero {listed : Array Bool} (h : leftOf listed = 0) (i : Nat) (hi : i < listed.size) : listed.getD i false = true := by
  rw [getD_listed hi]
  unfold leftOf at h
  rw [List.countP_eq_zero] at h
  have := h listed[i] (by simp)
  simpa using this

theorem ready_nil {listed : Array Bool} (hb : backs ops = true) (hs : listed.size = ops.size) (h : Region.ready .any ops listed = []) : ∀ i, i < ops.size → listed.getD i false = true := by
  intro i
  induction i using Nat.strongRecOn with
  | _ i ih =>
    intro hi
    have hi' : i < listed.size := by omega
    cases hl : listed.getD i false with
    | true => rfl
    | false =>
      exfalso
      have hr : i ∈ Region.ready .any ops listed := by
        rw [mem_ready]
        refine ⟨?_, ops[i], by simp [hi], fun e he hbi => ?_⟩
        · rw [getD_listed hi'] at hl ⊢; exact hl
        · have h1 := List.all_eq_true.1 hb i (List.mem_range.2 hi)
          simp only [Array.getElem?_eq_getElem hi] at h1
          have h2 := Array.all_eq_true_iff_forall_mem.1 h1 e he
          simp only [hbi, Bool.not_true, Bool.false_or, decide_eq_true_eq] at h2
          exact ih e.on h2 (by omega)
      rw [h] at hr
      cases hr

/-- THE RULE: what holds at the beginning and is kept by each operation whenever it may come up, holds behind the region. -/
theorem wpAny_inv (hb : backs ops = true) (I : Array Bool → Act → World → Prop)
    (step : ∀ (listed : Array Bool) (a : Act) (w : World) (i : Nat) (o : Oper), listed.size = ops.size → ops[i]? = some o → listed.getD i false = false →
      (∀ e ∈ o.after, Region.binds .any e = true → listed.getD e.on false = true) → I listed a w →
      ∀ K : Act → World → Prop, (∀ a' w', I (listed.setIfInBounds i true) a' w' → K a' w') → if Region.wanted o (yielded ops a.tmps) = true then Oper.wp P o a w K Q else K (a.put o.dst undef) w)
    (fin : ∀ listed a w, (∀ i, i < ops.size → listed.getD i false = true) → I listed a w → Q .normal a w) :
    ∀ (fuel : Nat) (listed : Array Bool) (a : Act) (w : World), listed.size = ops.size → leftOf listed ≤ fuel → I listed a w → wpAny P .any ops Q fuel listed a w := by
  intro fuel
  induction fuel with
  | zero =>
    intro listed a w hs hl hI
    have hall := leftOf_zero (Nat.le_zero.1 hl)
    refine ⟨?_, fin _ _ _ (fun i hi => hall i (by omega)) hI⟩
    cases hr : Region.ready .any ops listed with
    | nil => rfl
    | cons j r =>
      exfalso
      have hj : j ∈ Region.ready .any ops listed := by rw [hr]; simp
      obtain ⟨h0, o, ho, _⟩ := mem_ready.1 hj
      have hj2 : j < ops.size := (Array.getElem?_eq_some_iff.1 ho).1
      have := hall j (by omega)
      rw [getD_listed (by omega)] at this h0
      rw [this] at h0
      cases h0
  | succ fuel ih =>
    intro listed a w hs hl hI
    refine ⟨fun h => fin _ _ _ (ready_nil hb hs h) hI, fun i hi => ?_⟩
    obtain ⟨h0, o, ho, hall⟩ := mem_ready.1 hi
    have hi2 : i < ops.size := (Array.getElem?_eq_some_iff.1 ho).1
    have h0' : listed.getD i false = false := by rw [getD_listed (by omega)] at h0 ⊢; exact h0
    have := leftOf_set (by omega) h0'
    exact wpOp_step ho fun K' hK => step listed a w i o hs ho h0' hall hI K' fun a' w' hI' => hK _ _ (ih _ _ _ (by simpa using hs) (by omega) hI')

/-! ### The frame -/
def upd {α : Type} (V : Nat → α) (i : Nat) (v : α) : Nat → α := fun j => if j = i then v else V j

def dstOf (ops : Array Oper) (i : Nat) : Option Tmp := match ops[i]? with | some o => o.dst | none => none
theorem dstOf_some {i : Nat} {o : Oper} (h : ops[i]? = some o) : dstOf ops i = o.dst := by unfold dstOf; rw [h]
theorem dstOf_lt {k d : Nat} (hk : dstOf ops k = some d) : k < ops.size := by
  unfold dstOf at hk
  cases h0 : ops[k]? with
  | none => rw [h0] at hk; cases hk
  | some o => exact (Array.getElem?_eq_some_iff.1 h0).1
/-- No two operations write one temporary. -/
def dstsApart (ops : Array Oper) : Bool := (List.range ops.size).all fun i => (List.range i).all fun j => match dstOf ops i, dstOf ops j with | some d, some e => d != e | _, _ => true

structure FrameOf (ops : Array Oper) (a0 : Act) (listed : Nat → Bool) (V : Nat → Value) (a : Act) : Prop where
  defers : a.defers = a0.defers
  size : a.tmps.size = a0.tmps.size
  of : ∀ i d, dstOf ops i = some d → listed i = true → d < a0.tmps.size → a.tmps[d]? = some (V i)
  old : ∀ d, (∀ i, dstOf ops i = some d → listed i = false) → a.tmps[d]? = a0.tmps[d]?

theorem dsts_ne (h : dstsApart ops = true) {i j d : Nat} (hi : dstOf ops i = some d) (hj : dstOf ops j = some d) : i = j := by
  have key : ∀ i j, dstOf ops i = some d → dstOf ops j = some d → j < i → False := fun i j hi hj hlt' => by
    have h1 := List.all_eq_true.1 (List.all_eq_true.1 h i (List.mem_range.2 (dstOf_lt hi))) j (List.mem_range.2 hlt')
    rw [hi, hj] at h1
    simp at h1
  rcases Nat.lt_trichotomy i j with h1 | h1 | h1
  · exact (key j i hj hi h1).elim
  · exact h1
  · exact (key i j hi hj h1).elim

theorem FrameOf.refl (a0 : Act) (V : Nat → Value) : FrameOf ops a0 (fun _ => false) V a0 := ⟨rfl, rfl, fun _ _ _ h => (by cases h), fun _ _ => rfl⟩

theorem FrameOf.put (ha : dstsApart ops = true) {a0 a : Act} {listed listed' : Nat → Bool} {V : Nat → Value} (h : FrameOf ops a0 listed V a) {i : Nat} {o : Oper} (ho : ops[i]? = some o) (hl : ∀ j, listed' j = (listed j || j == i)) (v : Value) :
    FrameOf ops a0 listed' (upd V i v) (a.put o.dst v) := by
  cases hd : o.dst with
  | none =>
    have e : a.put none v = a := rfl
    rw [e]
    refine ⟨h.defers, h.size, fun j d hj hlj hdj => ?_, fun d hn => h.old d fun j hj => ?_⟩
    · have hji : j ≠ i := fun e => by subst e; rw [dstOf_some ho, hd] at hj; cases hj
      have : listed j = true := by have := hl j; simp [hlj, hji] at this; exact this
      simp only [upd, if_neg hji]
      exact h.of j d hj this hdj
    · have := hn j hj; have h2 := hl j; rw [this] at h2; simp at h2; exact h2.1
  | some d0 =>
    have hi : dstOf ops i = some d0 := by rw [dstOf_some ho]; exact hd
    refine ⟨h.defers, by simpa [Act.put] using h.size, fun j d hj hlj hdj => ?_, fun d hn => ?_⟩
    · by_cases hji : j = i
      · subst hji
        rw [hi] at hj
        cases hj
        simp [Act.put, upd, h.size, hdj]
      · have hne : d0 ≠ d := fun e => hji (dsts_ne ha hj (e ▸ hi))
        have : listed j = true := by have := hl j; simp [hlj, hji] at this; exact this
        simp only [upd, if_neg hji, Act.put]
        rw [Array.getElem?_setIfInBounds_ne hne]
        exact h.of j d hj this hdj
    · have hne : d0 ≠ d := fun e => by subst e; have := hn i hi; rw [hl] at this; simp at this
      simp only [Act.put]
      rw [Array.getElem?_setIfInBounds_ne hne]
      exact h.old d fun j hj => by have := hn j hj; have h2 := hl j; rw [this] at h2; simp at h2; exact h2.1

/-- All are put, in the order of the text. -/
def putFrom (ops : Array Oper) (V : Nat → Value) : Nat → Act → Act
  | 0, a => a
  | n + 1, a => (putFrom ops V n a).put (dstOf ops n) (V n)

theorem upd_self {α : Type} (V : Nat → α) (i : Nat) : upd V i (V i) = V := by
  funext j; unfold upd; split
  · rename_i e; rw [e]
  · rfl
theorem putFrom_frame (ha : dstsApart ops = true) (a0 : Act) (V : Nat → Value) : ∀ n, n ≤ ops.size → FrameOf ops a0 (fun j => decide (j < n)) V (putFrom ops V n a0)
  | 0, _ => by simpa [putFrom] using FrameOf.refl a0 V
  | n + 1, hn => by
    have ih := putFrom_frame ha a0 V n (by omega)
    have hlt : n < ops.size := by omega
    have h1 := ih.put ha (i := n) (o := ops[n]) (by simp [hlt]) (listed' := fun j => decide (j < n + 1)) (fun j => by
      by_cases h1 : j < n
      · have : j < n + 1 := by omega
        simp [h1, this]
      · by_cases h2 : j = n
        · simp [h2]
        · have : ¬ j < n + 1 := by omega
          simp [h1, h2, this]) (V n)
    rw [upd_self] at h1
    have e : putFrom ops V (n + 1) a0 = (putFrom ops V n a0).put ops[n].dst (V n) := by
      rw [putFrom, dstOf_some (Array.getElem?_eq_getElem hlt)]
    rw [e]
    exact h1

theorem FrameOf.all (ha : dstsApart ops = true) {a0 a : Act} {listed : Nat → Bool} {V : Nat → Value} (h : FrameOf ops a0 listed V a) (hl : ∀ i, i < ops.size → listed i = true) : a = putFrom ops V ops.size a0 := by
  have h2 := putFrom_frame ha a0 V ops.size (Nat.le_refl _)
  have e : a.tmps = (putFrom ops V ops.size a0).tmps := by
    apply Array.ext_getElem?
    intro d
    by_cases hd : ∃ i, dstOf ops i = some d
    · obtain ⟨i, hi⟩ := hd
      have hlt : i < ops.size := dstOf_lt hi
      by_cases hd2 : d < a0.tmps.size
      · rw [h.of i d hi (hl i hlt) hd2, h2.of i d hi (by simpa using hlt) hd2]
      · rw [Array.getElem?_eq_none (by rw [h.size]; omega), Array.getElem?_eq_none (by rw [h2.size]; omega)]
    · have hno : ∀ i, dstOf ops i = some d → False := fun i hi => hd ⟨i, hi⟩
      rw [h.old d (fun i hi => (hno i hi).elim), h2.old d (fun i hi => (hno i hi).elim)]
  have e2 : a.defers = (putFrom ops V ops.size a0).defers := by rw [h.defers, h2.defers]
  cases a
  generalize putFrom ops V ops.size a0 = b at e e2
  cases b
  simp at e e2
  rw [e, e2]

/-! ### Facts that go on to hold -/
/-- A fact on a world with private blocks L, about public blocks and, where 'blk' names one, one private block. -/
structure RFact where
  holds : (Nat → Prop) → World → Prop
  blk : Option Nat
  keep : ∀ {L L' Wr : Nat → Prop} {w w' : World}, Turn Wr w w' → (∀ b, Wr b → L b) → (∀ b, blk = some b → ¬ Wr b) → (∀ b, L' b → L b ∨ w.heap.size ≤ b) → holds L w → holds L' w'

def mask {α : Type} (z : α) (A : Nat → Nat → Bool) (i : Nat) (V : Nat → α) : Nat → α := fun j => bif (j == i || A i j) then V j else z
theorem mask_upd {α : Type} {z : α} {A : Nat → Nat → Bool} {i j : Nat} {V : Nat → α} {v : α} (h : i ≠ j) (hA : A i j = false) : mask z A i (upd V j v) = mask z A i V := by
  funext k
  unfold mask upd
  by_cases hk : k = j
  · subst hk
    have : (k == i) = false := by simp; exact fun e => h e.symm
    simp [this, hA]
  · simp [hk]

/-- The table of ancestors is made of edges. -/
def okA (ops : Array Oper) (A : Nat → Nat → Bool) : Bool := (List.range ops.size).all fun i => (List.range ops.size).all fun j => !A i j || match ops[i]? with | some o => o.after.any (fun e => Region.binds .any e && (e.on == j || A e.on j)) | none => false

section
variable {γ : Type} (z : γ) (A : Nat → Nat → Bool) (cons : Nat → Option Nat) (F : Nat → (Nat → Value) → (Nat → γ) → RFact) (n : Nat) (L0 : Nat → Prop)
def Fx (i : Nat) (V : Nat → Value) (G : Nat → γ) : RFact := F i (mask undef A i V) (mask z A i G)
def Live (lf : Nat → Bool) (i : Nat) : Prop := i < n ∧ lf i = true ∧ ∀ c, cons i = some c → lf c = false
def Priv (lf : Nat → Bool) (V : Nat → Value) (G : Nat → γ) (b : Nat) : Prop := L0 b ∨ ∃ i, Live cons n lf i ∧ (Fx z A F i V G).blk = some b
def avail (i j : Nat) : Bool := A i j && decide (j < n) && match cons j with | none => true | some c => c == i || A c i
end

/-- What is known where operation i comes up. -/
structure Pre {γ : Type} (ops : Array Oper) (z : γ) (A : Nat → Nat → Bool) (cons : Nat → Option Nat) (F : Nat → (Nat → Value) → (Nat → γ) → RFact) (L0 W0 : Nat → Prop) (B : World → Prop) (a0 : Act) (w0 : World)
    (i : Nat) (V : Nat → Value) (G : Nat → γ) (L : Nat → Prop) (a : Act) (w : World) : Prop where
  dep : ∀ j d, A i j = true → dstOf ops j = some d → d < a0.tmps.size → a.tmps[d]? = some (V j)
  old : ∀ d, (∀ j, dstOf ops j ≠ some d) → a.tmps[d]? = a0.tmps[d]?
  fact : ∀ j, avail A cons ops.size i j = true → (Fx z A F j V G).holds L w
  base : B w
  grown : Turn W0 w0 w
  lt : ∀ b, L b → b < w.heap.size
  mem : ∀ b, L0 b → L b
  wr : ∀ b, W0 b → L0 b
  new : ∀ b, L b → L0 b ∨ w0.heap.size ≤ b
  own : ∀ j b, avail A cons ops.size i j = true → (Fx z A F j V G).blk = some b → L b ∧ w0.heap.size ≤ b

/-- What operation i owes, of the value v that it yields. -/
structure Post {γ : Type} (z : γ) (A : Nat → Nat → Bool) (cons : Nat → Option Nat) (F : Nat → (Nat → Value) → (Nat → γ) → RFact) (n : Nat) (L0 W0 : Nat → Prop) (B : World → Prop)
    (i : Nat) (V : Nat → Value) (G : Nat → γ) (L : Nat → Prop) (w : World) (v : Value) (g : γ) (w' : World) : Prop where
  grown : Turn (fun b => W0 b ∨ ∃ j, avail A cons n i j = true ∧ cons j = some i ∧ (Fx z A F j V G).blk = some b) w w'
  base : B w'
  fact : ∀ L' : Nat → Prop, (∀ b, L' b → (L b ∧ ∀ j, avail A cons n i j = true → cons j = some i → (Fx z A F j V G).blk ≠ some b) ∨ (Fx z A F i (upd V i v) (upd G i g)).blk = some b) → (∀ b, L0 b → L' b) → (Fx z A F i (upd V i v) (upd G i g)).holds L' w'
  own : ∀ b, (Fx z A F i (upd V i v) (upd G i g)).blk = some b → (w.heap.size ≤ b ∧ b < w'.heap.size) ∨ ∃ j, avail A cons n i j = true ∧ cons j = some i ∧ (Fx z A F j V G).blk = some b

def StepAll (C : Nat → Oper → Prop) : Nat → List Oper → Prop
  | _, [] => True
  | i, o :: r => C i o ∧ StepAll C (i + 1) r
theorem StepAll.get {C : Nat → Oper → Prop} : ∀ {l : List Oper} {k : Nat}, StepAll C k l → ∀ i o, l[i]? = some o → C (k + i) o
  | [], _, _, i, o, hi => by simp at hi
  | x :: r, k, h, 0, o, hi => by simp at hi; subst hi; exact h.1
  | x :: r, k, h, i + 1, o, hi => by
    have := h.2.get i o (by simpa using hi)
    rw [show k + (i + 1) = k + 1 + i from by omega]
    exact this

def consOk (n : Nat) (A : Nat → Nat → Bool) (cons : Nat → Option Nat) : Bool := (List.range n).all fun j => match cons j with | some c => A c j && decide (c < n) | none => true

theorem wpAny_facts (hb : backs ops = true) (ha : dstsApart ops = true) {γ : Type} (z : γ) (A : Nat → Nat → Bool) (hA : okA ops A = true) (cons : Nat → Option Nat) (hcons : consOk ops.size A cons = true) (F : Nat → (Nat → Value) → (Nat → γ) → RFact)
    (L0 W0 : Nat → Prop) (B : World → Prop) (a0 : Act) (w0 : World) (hL0 : ∀ b, L0 b → b < w0.heap.size) (hW0 : ∀ b, W0 b → L0 b) (hB0 : B w0)
    (step : StepAll (fun i o => ∀ (V : Nat → Value) (G : Nat → γ) (L : Nat → Prop) (a : Act) (w : World), Pre ops z A cons F L0 W0 B a0 w0 i V G L a w → ∀ K : Act → World → Prop,
      (∀ v g w', Post z A cons F ops.size L0 W0 B i V G L w v g w' → K (a.put o.dst v) w') → if Region.wanted o (yielded ops a.tmps) = true then Oper.wp P o a w K Q else K (a.put o.dst undef) w) 0 ops.toList)
    (fin : ∀ (V : Nat → Value) (G : Nat → γ) (w : World) (L : Nat → Prop), Turn W0 w0 w → B w → (∀ i, i < ops.size → cons i = none → (Fx z A F i V G).holds L w ∧ ∀ b, (Fx z A F i V G).blk = some b → w0.heap.size ≤ b ∧ b < w.heap.size) →
      (∀ b, L b ↔ L0 b ∨ ∃ i, i < ops.size ∧ cons i = none ∧ (Fx z A F i V G).blk = some b) →
      (∀ i j b, i < ops.size → j < ops.size → cons i = none → cons j = none → (Fx z A F i V G).blk = some b → (Fx z A F j V G).blk = some b → i = j) → Q .normal (putFrom ops V ops.size a0) w) :
    wpAny P .any ops Q ops.size (Array.replicate ops.size false) a0 w0 := by
  refine wpAny_inv hb (fun listed a w => ∃ (V : Nat → Value) (G : Nat → γ), FrameOf ops a0 (fun i => listed.getD i false) V a ∧ Turn W0 w0 w ∧ B w ∧
    (∀ i j, i < ops.size → j < ops.size → listed.getD i false = true → A i j = true → listed.getD j false = true) ∧
    (∀ i, Live cons ops.size (fun i => listed.getD i false) i → (Fx z A F i V G).holds (Priv z A cons F ops.size L0 (fun i => listed.getD i false) V G) w ∧ ∀ b, (Fx z A F i V G).blk = some b → w0.heap.size ≤ b ∧ b < w.heap.size) ∧
    (∀ i j b, Live cons ops.size (fun i => listed.getD i false) i → Live cons ops.size (fun i => listed.getD i false) j → (Fx z A F i V G).blk = some b → (Fx z A F j V G).blk = some b → i = j)) ?_ ?_ _ _ _ _ (by simp) ?_ ?_
  · intro listed a w i o hs ho hl hall ⟨V, G, hf, hg, hBw, hcl, hfacts, hdist⟩ K hK
    have hi : i < ops.size := (Array.getElem?_eq_some_iff.1 ho).1
    have hin : ∀ j, listed.getD j false = true → j < ops.size := fun j hj => by
      rcases Nat.lt_or_ge j listed.size with h | h
      · omega
      · simp [Array.getElem?_eq_none h] at hj
    have hAi : ∀ j, j < ops.size → A i j = true → listed.getD j false = true := fun j hj hij => by
      have h1 := List.all_eq_true.1 (List.all_eq_true.1 hA i (List.mem_range.2 hi)) j (List.mem_range.2 hj)
      rw [hij, ho] at h1
      simp only [Bool.not_true, Bool.false_or] at h1
      obtain ⟨e, he, hb⟩ := Array.any_eq_true'.1 h1
      simp only [Bool.and_eq_true, Bool.or_eq_true, beq_iff_eq] at hb
      have h2 := hall e he hb.1
      rcases hb.2 with h3 | h3
      · rw [← h3]; exact h2
      · exact hcl _ _ (hin _ h2) hj h2 h3
    have hnot : ∀ i', listed.getD i' false = true → A i' i = false := fun i' hi' => by
      cases h : A i' i with
      | false => rfl
      | true => have := hcl i' i (hin _ hi') hi hi' h; rw [hl] at this; cases this
    have hlive : ∀ j, avail A cons ops.size i j = true → Live cons ops.size (fun i => listed.getD i false) j := fun j hj => by
      simp only [avail, Bool.and_eq_true, decide_eq_true_eq] at hj
      obtain ⟨⟨h1, h2⟩, h3⟩ := hj
      refine ⟨h2, hAi j h2 h1, fun c hc => ?_⟩
      rw [hc] at h3
      simp only [Bool.or_eq_true, beq_iff_eq] at h3
      show listed.getD c false = false
      rcases h3 with h3 | h3
      · rw [h3]; exact hl
      · cases h : listed.getD c false with
        | false => rfl
        | true => have := hcl c i (hin _ h) hi h h3; rw [hl] at this; cases this
    generalize hL : Priv z A cons F ops.size L0 (fun i => listed.getD i false) V G = L at hfacts
    have hLb : ∀ b, L b ↔ L0 b ∨ ∃ i, Live cons ops.size (fun i => listed.getD i false) i ∧ (Fx z A F i V G).blk = some b := fun b => by rw [← hL]; exact Iff.rfl
    have hpre : Pre ops z A cons F L0 W0 B a0 w0 i V G L a w := by
      refine ⟨fun j d hj hd hlt => hf.of j d hd (hAi j (dstOf_lt hd) hj) hlt, fun d hd => hf.old d fun j hj => (hd j hj).elim, fun j hj => (hfacts j (hlive j hj)).1, hBw, hg, ?_, fun b hb => (hLb b).2 (.inl hb), hW0, ?_, fun j b hj hb => ⟨(hLb b).2 (.inr ⟨j, hlive j hj, hb⟩), ((hfacts j (hlive j hj)).2 b hb).1⟩⟩
      · intro b hb
        rcases (hLb b).1 hb with h | ⟨j, hj, hb⟩
        · exact Nat.lt_of_lt_of_le (hL0 b h) hg.size
        · exact ((hfacts j hj).2 b hb).2
      · intro b hb
        rcases (hLb b).1 hb with h | ⟨j, hj, hb⟩
        · exact .inl h
        · exact .inr ((hfacts j hj).2 b hb).1
    have hst := step.get i o (by rw [Array.getElem?_toList]; exact ho)
    rw [Nat.zero_add] at hst
    refine hst V G L a w hpre K fun v g w' post => hK _ _ ⟨upd V i v, upd G i g, ?_⟩
    have hl' : ∀ j, (listed.setIfInBounds i true).getD j false = (listed.getD j false || j == i) := fun j => by
      by_cases hji : i = j
      · subst hji
        have : i < listed.size := by omega
        simp [this]
      · have : (j == i) = false := by simp; exact fun e => hji e.symm
        rw [this, Bool.or_false, getD_set_ne false hji]
    have hsame : ∀ i', i' ≠ i → listed.getD i' false = true → Fx z A F i' (upd V i v) (upd G i g) = Fx z A F i' V G := fun i' hne hli => by
      unfold Fx
      rw [mask_upd hne (hnot i' hli), mask_upd hne (hnot i' hli)]
    have hdown : ∀ i', i' ≠ i → Live cons ops.size (fun j => (listed.setIfInBounds i true).getD j false) i' → Live cons ops.size (fun i => listed.getD i false) i' ∧ cons i' ≠ some i := fun i' hne h => by
      have h2 : (listed.setIfInBounds i true).getD i' false = true := h.2.1
      rw [hl'] at h2
      have : (i' == i) = false := by simp [hne]
      rw [this, Bool.or_false] at h2
      refine ⟨⟨h.1, h2, fun c hc => ?_⟩, fun hc => ?_⟩
      · have h3 : (listed.setIfInBounds i true).getD c false = false := h.2.2 c hc
        rw [hl'] at h3
        simp only [Bool.or_eq_false_iff] at h3
        exact h3.1
      · have h3 : (listed.setIfInBounds i true).getD i false = false := h.2.2 i hc
        rw [hl'] at h3
        simp at h3
    have hpriv : ∀ b, Priv z A cons F ops.size L0 (fun j => (listed.setIfInBounds i true).getD j false) (upd V i v) (upd G i g) b →
        (L b ∧ ∀ j, avail A cons ops.size i j = true → cons j = some i → (Fx z A F j V G).blk ≠ some b) ∨ (Fx z A F i (upd V i v) (upd G i g)).blk = some b := fun b hb => by
      rcases hb with h | ⟨i', hlv, hb⟩
      · refine .inl ⟨(hLb b).2 (.inl h), fun j hj hc he => ?_⟩
        have := ((hfacts j (hlive j hj)).2 b he).1
        have := hL0 b h
        omega
      · by_cases hii : i' = i
        · subst hii; exact .inr hb
        · obtain ⟨h1, h2⟩ := hdown i' hii hlv
          rw [hsame i' hii h1.2.1] at hb
          refine .inl ⟨(hLb b).2 (.inr ⟨i', h1, hb⟩), fun j hj hc he => ?_⟩
          have := hdist i' j b h1 (hlive j hj) hb he
          subst this
          exact h2 hc
    have hown : ∀ b, (Fx z A F i (upd V i v) (upd G i g)).blk = some b → w0.heap.size ≤ b ∧ b < w'.heap.size ∧ (L b ∨ w.heap.size ≤ b) := fun b hb => by
      have h1 := hg.size
      have h2 := post.grown.size
      rcases post.own b hb with h | ⟨j, hj, _, hb⟩
      · exact ⟨by omega, h.2, .inr h.1⟩
      · have h3 := (hfacts j (hlive j hj)).2 b hb
        exact ⟨h3.1, by omega, .inl ((hLb b).2 (.inr ⟨j, hlive j hj, hb⟩))⟩
    refine ⟨hf.put ha ho hl' v, ?_, post.base, ?_, ?_, ?_⟩
    · have k := post.grown
      refine ⟨k.os.trans hg.os, k.tape.trans hg.tape, k.output.trans hg.output, Nat.le_trans hg.size k.size, fun b hb hn => (k.block b (Nat.lt_of_lt_of_le hb hg.size) ?_).trans (hg.block b hb hn)⟩
      rintro (h | ⟨j, hj, _, he⟩)
      · exact hn h
      · have := ((hfacts j (hlive j hj)).2 b he).1
        omega
    · intro i' j hi' hj hli hij
      rw [hl'] at hli ⊢
      by_cases hii : i' = i
      · subst hii; rw [hAi j hj hij]; rfl
      · have : (i' == i) = false := by simp [hii]
        rw [this, Bool.or_false] at hli
        rw [hcl i' j hi' hj hli hij]; rfl
    · intro i' hlv
      by_cases hii : i' = i
      · subst hii
        exact ⟨post.fact _ hpriv (fun b hb => .inl hb), fun b hb => ⟨(hown b hb).1, (hown b hb).2.1⟩⟩
      · obtain ⟨h1, h2⟩ := hdown i' hii hlv
        rw [hsame i' hii h1.2.1]
        obtain ⟨h3, h4⟩ := hfacts i' h1
        refine ⟨(Fx z A F i' V G).keep post.grown ?_ ?_ ?_ h3, fun b hb => ⟨(h4 b hb).1, Nat.lt_of_lt_of_le (h4 b hb).2 post.grown.size⟩⟩
        · rintro b (h | ⟨j, hj, _, he⟩)
          · exact (hLb b).2 (.inl (hW0 b h))
          · exact (hLb b).2 (.inr ⟨j, hlive j hj, he⟩)
        · rintro b hb (h | ⟨j, hj, hc, he⟩)
          · have := (h4 b hb).1; have := hL0 b (hW0 b h); omega
          · have := hdist i' j b h1 (hlive j hj) hb he
            subst this
            exact h2 hc
        · intro b hb
          rcases hpriv b hb with h | h
          · exact .inl h.1
          · exact (hown b h).2.2
    · have key : ∀ j b, j ≠ i → Live cons ops.size (fun j => (listed.setIfInBounds i true).getD j false) j → (Fx z A F i (upd V i v) (upd G i g)).blk = some b → (Fx z A F j (upd V i v) (upd G i g)).blk = some b → False := fun j b hne hlv hb he => by
        obtain ⟨h1, h2⟩ := hdown j hne hlv
        rw [hsame j hne h1.2.1] at he
        rcases post.own b hb with h | ⟨j', hj', hc, he'⟩
        · have := ((hfacts j h1).2 b he).2; omega
        · have := hdist j j' b h1 (hlive j' hj') he he'
          subst this
          exact h2 hc
      intro i1 i2 b hv1 hv2 h1 h2
      by_cases e1 : i1 = i
      · by_cases e2 : i2 = i
        · rw [e1, e2]
        · subst e1; exact (key i2 b e2 hv2 h1 h2).elim
      · by_cases e2 : i2 = i
        · subst e2; exact (key i1 b e1 hv1 h2 h1).elim
        · obtain ⟨l1, _⟩ := hdown i1 e1 hv1
          obtain ⟨l2, _⟩ := hdown i2 e2 hv2
          rw [hsame i1 e1 l1.2.1] at h1
          rw [hsame i2 e2 l2.2.1] at h2
          exact hdist i1 i2 b l1 l2 h1 h2
  · intro listed a w hall ⟨V, G, hf, hg, hBw, hcl, hfacts, hdist⟩
    have hlive : ∀ i, i < ops.size → cons i = none → Live cons ops.size (fun i => listed.getD i false) i := fun i hi hc => ⟨hi, hall i hi, fun c h => by rw [hc] at h; cases h⟩
    rw [hf.all ha hall]
    refine fin V G w _ hg hBw (fun i hi hc => hfacts i (hlive i hi hc)) ?_ (fun i j b hi hj hci hcj h1 h2 => hdist i j b (hlive i hi hci) (hlive j hj hcj) h1 h2)
    intro b
    constructor
    · rintro (h | ⟨i, hlv, hb⟩)
      · exact .inl h
      · refine .inr ⟨i, hlv.1, ?_, hb⟩
        cases hc : cons i with
        | none => rfl
        | some c =>
          have h1 := List.all_eq_true.1 hcons i (List.mem_range.2 hlv.1)
          simp only [hc, Bool.and_eq_true, decide_eq_true_eq] at h1
          have h2 : listed.getD c false = false := hlv.2.2 c hc
          rw [hall c h1.2] at h2
          cases h2
    · rintro (h | ⟨i, hi, hc, hb⟩)
      · exact .inl h
      · exact .inr ⟨i, hlive i hi hc, hb⟩
  · simp [leftOf, List.countP_replicate]
  · have h0 : ∀ i, (Array.replicate ops.size false).getD i false = false := fun i => by
      simp only [Array.getD_eq_getD_getElem?, Array.getElem?_replicate]
      split <;> rfl
    refine ⟨fun _ => undef, fun _ => z, ?_, Turn.refl _ _, hB0, fun i j _ _ h => (by rw [h0] at h; cases h), fun i h => (by have := h.2.1; simp only [h0] at this; cases this), fun i j b h => (by have := h.2.1; simp only [h0] at this; cases this)⟩
    have := FrameOf.refl (ops := ops) a0 (fun _ => undef)
    simp only [h0]
    exact this
end
end Go.Proofs.YtifijgihcincfaaDoor
namespace Go.Proofs.YtifijgihcincfaaDoor
open Go.RowKit Go.Shelf

theorem step_call {P : Program} {ops : Array Oper} {o : Oper} {a : Act} {w : World} {K : Act → World → Prop} {Q : Exit → Act → World → Prop} {E : Prop} (hgd : o.guard = none) (f : FuncId) (os : Array Operand) (ts : Array TypeId)
    (ho : o.op = Op.call { callee := Callee.value (Operand.func f), args := os, argTypes := ts }) (vals : Array Value) (hv : os.map a.eval = vals) (hrun : ∀ args w, (callFunc f args).run P w = .ok (.enter f args) w)
    {R : Ending → World → Prop} (hc : Calls P f vals w R) (h : ∀ e w', R e w' → ∃ v, e = .returned v ∧ K (a.put o.dst v) w') :
    if Region.wanted o (yielded ops a.tmps) = true then Oper.wp P o a w K Q else E := by
  have hw : Region.wanted o (yielded ops a.tmps) = true := by simp [Region.wanted, hgd]
  rw [if_pos hw]
  have hx : (execOp a.eval o).run P w = .ok (.enter f vals) w := by
    have := hrun vals w
    simp [execOp, ho, resolve, hv, Act.eval, invoke, Deferred.ofValue, this, go_sem]
  unfold Oper.wp
  rw [hx, Oper.upon_enter]
  refine hc.mono ?_
  intro e w' hr
  obtain ⟨v, rfl, hk⟩ := h e w' hr
  exact hk

/-- Next, as a step. -/
theorem step_next {ops : Array Oper} {o : Oper} {a : Act} {w : World} {K : Act → World → Prop} {Q : Exit → Act → World → Prop} {E : Prop} (hgd : o.guard = none) (s : Operand) (n : Int) (ts : Array TypeId) (g : Nat)
    (ho : o.op = Op.call { callee := Callee.value (Operand.func 34), args := #[s, .const (.int .i64 n)], argTypes := ts }) (hs : a.eval s = .pointer (some ⟨g, 0, none⟩)) (hn : 1 ≤ n) (hn2 : n ≤ 1000000) (hd : Deck w g)
    (h : ∀ r w', 0 ≤ r → r < n → Deck w' g → w.grownBy w' (some g) → K (a.put o.dst (.int .i64 r)) w') : if Region.wanted o (yielded ops a.tmps) = true then Oper.wp Tryd.prog o a w K Q else E :=
  step_call hgd _ _ ts ho #[.pointer (some ⟨g, 0, none⟩), .int .i64 n] (by have e : a.eval (.const (.int .i64 n)) = .int .i64 n := rfl; simp only [List.map_toArray, List.map_cons, List.map_nil, hs, e]) (enters_of Tryd.func34 (by kernel_rfl) rfl) (next_any g n w hn hn2 hd)
    fun e w' ⟨r, he, h0, h1, h2, h3⟩ => ⟨_, he, h r w' h0 h1 h2 h3⟩
end Go.Proofs.YtifijgihcincfaaDoor
namespace Go.Proofs.YtifijgihcincfaaDoor
open Go.RowKit

theorem good_keep {L L' Wr : Nat → Prop} {w w' : World} (h : Turn Wr w w') (hW : ∀ b, Wr b → L b) (hL : ∀ b, L' b → L b ∨ w.heap.size ≤ b) :
    (∀ b, Good L w b → Good L' w' b) ∧ (∀ p : Addr, Good L w p.block → w'.cell? p = w.cell? p) :=
  ⟨fun b hb => ⟨fun e => (hL b e).elim hb.1 (fun h1 => by have := hb.2; omega), Nat.lt_of_lt_of_le hb.2 h.size⟩, fun p hp => World.cell?_of_block (h.block p.block hp.2 (fun e => hp.1 (hW _ e)))⟩

/-- Something that holds of public blocks. -/
def RFact.pub (R : (Nat → Prop) → World → Prop) (hk : ∀ {S S' : Nat → Prop} {w w' : World}, (∀ b, S b → S' b) → (∀ p : Addr, S p.block → w'.cell? p = w.cell? p) → R S w → R S' w') : RFact :=
  ⟨fun L w => R (Good L w) w, none, fun h hW _ hL hr => hk (good_keep h hW hL).1 (good_keep h hW hL).2 hr⟩
def RFact.pure (p : Prop) : RFact := ⟨fun _ _ => p, none, fun _ _ _ _ h => h⟩
def RFact.tm (T : Tm) (v : Value) (p : Prop) : RFact := .pub (fun S w => IsTm S w T v ∧ p) fun hS hc h => ⟨IsTm.keep hS hc _ h.1, h.2⟩
def RFact.ty (T : Ty) (v : Value) (p : Prop) : RFact := .pub (fun S w => IsTy S w T v ∧ p) fun hS hc h => ⟨IsTy.keep hS hc _ h.1, h.2⟩
def RFact.sl {α : Type} (R : Rep α) (l : List α) (v : Value) (p : Prop) : RFact := .pub (fun S w => R.Sl S w l v ∧ p) fun hS hc h => ⟨h.1.keep hS hc, h.2⟩
def ptrBlk : Value → Option Nat
  | .pointer (some a) => some a.block
  | _ => none
/-- A box: the value is a pointer to it. -/
def RFact.box (t : TypeId) (c : Array Value) (v : Value) : RFact :=
  ⟨fun _ w => ∃ b, v = .pointer (some ⟨b, 0, none⟩) ∧ Blk w b t c, ptrBlk v, fun h _ hb _ ⟨b, hv, hk⟩ => ⟨b, hv, h.blk hk (hb b (by rw [hv]; rfl))⟩⟩
/-- A box that holds a value. -/
def RFact.boxv (t : TypeId) (x v : Value) : RFact :=
  ⟨fun _ w => ∃ b c, x = .agg c ∧ v = .pointer (some ⟨b, 0, none⟩) ∧ Blk w b t c, ptrBlk v, fun h _ hb _ ⟨b, c, hx, hv, hk⟩ => ⟨b, c, hx, hv, h.blk hk (hb b (by rw [hv]; rfl))⟩⟩
/-- A slice of the call's own. -/
def RFact.own {α : Type} (R : Rep α) (base : Nat) (l : List α) (v : Value) (p : Prop) : RFact :=
  ⟨fun L w => R.Own (fun b => ¬ L b) base v l w ∧ p, v.ownBlock, fun {L L' Wr w w'} h hW hb hL hr => by
    obtain ⟨⟨xs, ⟨h1, h2⟩, hc⟩, hp⟩ := hr
    have hg := good_keep h hW hL
    refine ⟨⟨xs, ⟨h1, ?_⟩, hc.keep (fun b hb => ⟨?_, Nat.lt_of_lt_of_le hb.2.1 h.size, hb.2.2⟩) (fun q hq => World.cell?_of_block (h.block q.block hq.2.1 (fun e => hq.1 (hW _ e))))⟩, hp⟩
    · rcases h2 with h2 | ⟨g, cap, cur, hv, hbs, hgg, rest⟩
      · exact .inl h2
      · refine .inr ⟨g, cap, cur, hv, hbs, ?_, rest⟩
        rw [h.block g (Array.getElem?_eq_some_iff.1 hgg).1 (hb g (by rw [hv]; rfl))]
        exact hgg
    · exact fun e => (hL b e).elim hb.1 (fun h1 => by have := hb.2.1; omega)⟩

/-- No operation writes the temporary. -/
def notDst (ops : Array Oper) (d : Nat) : Bool := (List.range ops.size).all fun i => dstOf ops i != some d
theorem notDst_spec {ops : Array Oper} {d : Nat} (h : notDst ops d = true) (j : Nat) : dstOf ops j ≠ some d := fun e => by
  have := List.all_eq_true.1 h j (List.mem_range.2 (dstOf_lt e))
  rw [e] at this
  simp at this

section
variable {γ : Type} {ops : Array Oper} {z : γ} {A : Nat → Nat → Bool} {cons : Nat → Option Nat} {F : Nat → (Nat → Value) → (Nat → γ) → RFact} {L0 W0 : Nat → Prop} {B : World → Prop} {a0 : Act} {w0 : World}
    {i n : Nat} {V : Nat → Value} {G : Nat → γ} {L : Nat → Prop} {a : Act} {w : World}

theorem Pre.slot (h : Pre ops z A cons F L0 W0 B a0 w0 i V G L a w) (j d : Nat) (hA : A i j = true) (hd : dstOf ops j = some d) (hs : Nat.blt d a0.tmps.size = true) : a.eval (.tmp d) = V j := by
  show a.tmps.getD d undef = V j
  rw [Array.getD_eq_getD_getElem?, h.dep j d hA hd (Nat.blt_eq.mp hs)]; rfl
theorem Pre.slot0 (h : Pre ops z A cons F L0 W0 B a0 w0 i V G L a w) (d : Nat) (v : Value) (hd : notDst ops d = true) (hv : a0.eval (.tmp d) = v) : a.eval (.tmp d) = v := by
  rw [← hv]
  show a.tmps.getD d undef = a0.tmps.getD d undef
  rw [Array.getD_eq_getD_getElem?, Array.getD_eq_getD_getElem?, h.old d (notDst_spec hd)]
/-- What was known ahead of the region. -/
theorem Pre.good (h : Pre ops z A cons F L0 W0 B a0 w0 i V G L a w) (b : Nat) (hb : Good L0 w0 b) : Good L w b :=
  ⟨fun e => (h.new b e).elim hb.1 (fun h1 => by have := hb.2; omega), Nat.lt_of_lt_of_le hb.2 h.grown.size⟩
theorem Pre.cell (h : Pre ops z A cons F L0 W0 B a0 w0 i V G L a w) (p : Addr) (hb : Good L0 w0 p.block) : w.cell? p = w0.cell? p := World.cell?_of_block (h.grown.block _ hb.2 (fun e => hb.1 (h.wr _ e)))
theorem Pre.blk0 (h : Pre ops z A cons F L0 W0 B a0 w0 i V G L a w) {b : Nat} {t : TypeId} {c : Array Value} (hk : Blk w0 b t c) (hb : ¬ W0 b) : Blk w b t c := h.grown.blk hk hb
theorem Pre.tm0 (h : Pre ops z A cons F L0 W0 B a0 w0 i V G L a w) {T : Tm} {v : Value} (hT : IsTm (Good L0 w0) w0 T v) : IsTm (Good L w) w T v := IsTm.keep h.good h.cell _ hT
theorem Pre.ty0 (h : Pre ops z A cons F L0 W0 B a0 w0 i V G L a w) {T : Ty} {v : Value} (hT : IsTy (Good L0 w0) w0 T v) : IsTy (Good L w) w T v := IsTy.keep h.good h.cell _ hT
theorem Pre.sl0 (h : Pre ops z A cons F L0 W0 B a0 w0 i V G L a w) {α : Type} {R : Rep α} {l : List α} {v : Value} (hT : R.Sl (Good L0 w0) w0 l v) : R.Sl (Good L w) w l v := hT.keep h.good h.cell

/-- An operation that turns no private block, and yields something public. -/
theorem Post.of {v : Value} {g : γ} {w' : World} (hn : (Fx z A F i (upd V i v) (upd G i g)).blk = none) (hg : Turn W0 w w') (hb : B w') (hlt : ∀ b, L b → b < w.heap.size)
    (hf : ∀ L' : Nat → Prop, (∀ b, Good L w b → Good L' w' b) → (∀ b, w.heap.size ≤ b → b < w'.heap.size → Good L' w' b) → (Fx z A F i (upd V i v) (upd G i g)).holds L' w') : Post z A cons F n L0 W0 B i V G L w v g w' where
  grown := hg.mono fun _ _ h => .inl h
  base := hb
  fact L' h _ := by
    have hd : ∀ b, L' b → L b := fun b hb => by
      rcases h b hb with h1 | h1
      · exact h1.1
      · rw [hn] at h1; cases h1
    exact hf L' (fun b hb => ⟨fun e => hb.1 (hd b e), Nat.lt_of_lt_of_le hb.2 hg.size⟩) (fun b hb hb' => ⟨fun e => by have := hlt b (hd b e); omega, hb'⟩)
  own b hb := by rw [hn] at hb; cases hb
/-- An operation that yields a number, a pointer or whatever, and leaves the world as it is. -/
theorem Post.still {v : Value} {g : γ} (hn : (Fx z A F i (upd V i v) (upd G i g)).blk = none) (hb : B w) (hlt : ∀ b, L b → b < w.heap.size)
    (hf : ∀ L' : Nat → Prop, (∀ b, Good L w b → Good L' w b) → (Fx z A F i (upd V i v) (upd G i g)).holds L' w) : Post z A cons F n L0 W0 B i V G L w v g w :=
  .of hn (Turn.refl _ _) hb hlt fun L' h _ => hf L' h
/-- A box that is made. -/
theorem Post.made {g : γ} {t : TypeId} {c : Array Value} (hF : Fx z A F i (upd V i (.pointer (some ⟨w.heap.size, 0, none⟩))) (upd G i g) = .box t c (.pointer (some ⟨w.heap.size, 0, none⟩))) (hb : B (w.alloc (.cells c t))) :
    Post z A cons F n L0 W0 B i V G L w (.pointer (some ⟨w.heap.size, 0, none⟩)) g (w.alloc (.cells c t)) where
  grown := Turn.alloc _ _
  base := hb
  fact L' _ _ := by rw [hF]; exact ⟨_, rfl, Blk.new _ _ _⟩
  own b h := by rw [hF] at h; cases h; exact .inl ⟨Nat.le_refl _, by simp⟩
/-- A box that is filled. -/
theorem Post.filled {g : γ} {t : TypeId} {b j : Nat} {g0 g1 g2 g3 g4 x0 x1 x2 x3 x4 : Value} (hj : avail A cons n i j = true) (hc : cons j = some i) (hbj : (Fx z A F j V G).blk = some b)
    (hF : Fx z A F i (upd V i undef) (upd G i g) = .boxv t (.agg #[x0, x1, x2, x3, x4]) (.pointer (some ⟨b, 0, none⟩))) (hk : Blk w b t #[g0, g1, g2, g3, g4])
    (hb : B (((((w.setCell ⟨b, 0, none⟩ x0).setCell ⟨b, 1, none⟩ x1).setCell ⟨b, 2, none⟩ x2).setCell ⟨b, 3, none⟩ x3).setCell ⟨b, 4, none⟩ x4)) :
    Post z A cons F n L0 W0 B i V G L w undef g (((((w.setCell ⟨b, 0, none⟩ x0).setCell ⟨b, 1, none⟩ x1).setCell ⟨b, 2, none⟩ x2).setCell ⟨b, 3, none⟩ x3).setCell ⟨b, 4, none⟩ x4) where
  grown := Turn.grown (only_set5 w b x0 x1 x2 x3 x4) (fun k e => by cases e; exact .inr ⟨j, hj, hc, hbj⟩)
  base := hb
  fact L' _ _ := by rw [hF]; exact ⟨_, _, rfl, rfl, hk.set5 x0 x1 x2 x3 x4⟩
  own b' h := by rw [hF] at h; cases h; exact .inr ⟨j, hj, hc, hbj⟩
theorem Post.filled2 {g : γ} {t : TypeId} {b j : Nat} {g0 g1 x0 x1 : Value} (hj : avail A cons n i j = true) (hc : cons j = some i) (hbj : (Fx z A F j V G).blk = some b)
    (hF : Fx z A F i (upd V i undef) (upd G i g) = .boxv t (.agg #[x0, x1]) (.pointer (some ⟨b, 0, none⟩))) (hk : Blk w b t #[g0, g1])
    (hb : B ((w.setCell ⟨b, 0, none⟩ x0).setCell ⟨b, 1, none⟩ x1)) :
    Post z A cons F n L0 W0 B i V G L w undef g ((w.setCell ⟨b, 0, none⟩ x0).setCell ⟨b, 1, none⟩ x1) where
  grown := Turn.grown (only_set2 w b x0 x1) (fun k e => by cases e; exact .inr ⟨j, hj, hc, hbj⟩)
  base := hb
  fact L' _ _ := by rw [hF]; exact ⟨_, _, rfl, rfl, by simpa using (hk.set_ 0 x0).set_ 1 x1⟩
  own b' h := by rw [hF] at h; cases h; exact .inr ⟨j, hj, hc, hbj⟩
end

section
variable {P : Program} {ops : Array Oper} {o : Oper} {a : Act} {w : World} {K : Act → World → Prop} {Q : Exit → Act → World → Prop} {E : Prop}
/-- An operation that runs to its end at once. -/
theorem step_run (hg : o.guard = none) {v : Value} {w' : World} (h : (execOp a.eval o).run P w = .ok (.value v) w') (hK : K (a.put o.dst v) w') : if Region.wanted o (yielded ops a.tmps) = true then Oper.wp P o a w K Q else E := by
  have hw : Region.wanted o (yielded ops a.tmps) = true := by simp [Region.wanted, hg]
  rw [if_pos hw]
  unfold Oper.wp
  rw [h]
  exact hK
theorem step_skip' (hg : o.guard = none) {w' : World} (h : (execOp a.eval o).run P w = .ok .skip w') (hK : K (a.put o.dst undef) w') : if Region.wanted o (yielded ops a.tmps) = true then Oper.wp P o a w K Q else E := by
  have hw : Region.wanted o (yielded ops a.tmps) = true := by simp [Region.wanted, hg]
  rw [if_pos hw]
  unfold Oper.wp
  rw [h]
  exact hK
theorem run_move {x : Operand} (ho : o.op = .move x) {v : Value} (hx : a.eval x = v) : (execOp a.eval o).run P w = .ok (.value v) w := by
  simp only [execOp, ho, hx]; rfl
theorem run_assign {x : Operand} (ho : o.op = .assign x) {v : Value} (hx : a.eval x = v) : (execOp a.eval o).run P w = .ok (.value v) w := by
  simp only [execOp, ho, hx]; rfl
end

section
variable {ops : Array Oper} {o : Oper} {a : Act} {w : World}
theorem run_load5 {x : Operand} (ho : o.op = .load 34 x) {q : Nat} {t : TypeId} {x0 x1 x2 x3 x4 : Value} (hx : a.eval x = .pointer (some ⟨q, 0, none⟩)) (hk : Blk w q t #[x0, x1, x2, x3, x4]) :
    (execOp a.eval o).run Tryd.prog w = .ok (.value (.agg #[x0, x1, x2, x3, x4])) w := by
  obtain ⟨c0, c1, c2, c3, c4, _, _, _, _, _⟩ := hk.facts5
  simp only [execOp, ho, hx]
  go_simp
theorem run_load2 {x : Operand} (ho : o.op = .load 30 x) {q : Nat} {t : TypeId} {x0 x1 : Value} (hx : a.eval x = .pointer (some ⟨q, 0, none⟩)) (hk : Blk w q t #[x0, x1]) :
    (execOp a.eval o).run Tryd.prog w = .ok (.value (.agg #[x0, x1])) w := by
  obtain ⟨c0, c1, _, _⟩ := hk.facts2
  simp only [execOp, ho, hx]
  go_simp
theorem run_alloc5 (ho : o.op = .alloc 34) :
    (execOp a.eval o).run Tryd.prog w = .ok (.value (.pointer (some ⟨w.heap.size, 0, none⟩))) (w.alloc (.cells #[.int .i64 0, .int .i64 0, .int .i64 0, .slice none 0 0, .slice none 0 0] 34)) := by
  simp only [execOp, ho]
  go_simp
theorem run_alloc2 (ho : o.op = .alloc 30) :
    (execOp a.eval o).run Tryd.prog w = .ok (.value (.pointer (some ⟨w.heap.size, 0, none⟩))) (w.alloc (.cells #[.int .i64 0, .slice none 0 0] 30)) := by
  simp only [execOp, ho]
  go_simp
theorem run_store5 {x y : Operand} (ho : o.op = .store 34 x y) {q : Nat} {t : TypeId} {g0 g1 g2 g3 g4 x0 x1 x2 x3 x4 : Value} (hx : a.eval x = .pointer (some ⟨q, 0, none⟩)) (hy : a.eval y = .agg #[x0, x1, x2, x3, x4]) (h1 : x0.oneCell' = true) (h2 : x1.oneCell' = true) (h3 : x2.oneCell' = true) (h4 : x3.oneCell' = true) (h5 : x4.oneCell' = true) (hk : Blk w q t #[g0, g1, g2, g3, g4]) :
    (execOp a.eval o).run Tryd.prog w = .ok .skip (((((w.setCell ⟨q, 0, none⟩ x0).setCell ⟨q, 1, none⟩ x1).setCell ⟨q, 2, none⟩ x2).setCell ⟨q, 3, none⟩ x3).setCell ⟨q, 4, none⟩ x4) := by
  obtain ⟨c0, c1, c2, c3, c4, f0, f1, f2, f3, f4⟩ := hk.facts5
  have s0 := fun p m w => run_store Tryd.prog w p x0 m h1
  have s1 := fun p m w => run_store Tryd.prog w p x1 m h2
  have s2 := fun p m w => run_store Tryd.prog w p x2 m h3
  have s3 := fun p m w => run_store Tryd.prog w p x3 m h4
  have s4 := fun p m w => run_store Tryd.prog w p x4 m h5
  simp only [execOp, ho, hx, hy]
  go_simp
theorem run_store2 {x y : Operand} (ho : o.op = .store 30 x y) {q : Nat} {t : TypeId} {g0 g1 x0 x1 : Value} (hx : a.eval x = .pointer (some ⟨q, 0, none⟩)) (hy : a.eval y = .agg #[x0, x1]) (h1 : x0.oneCell' = true) (h2 : x1.oneCell' = true) (hk : Blk w q t #[g0, g1]) :
    (execOp a.eval o).run Tryd.prog w = .ok .skip ((w.setCell ⟨q, 0, none⟩ x0).setCell ⟨q, 1, none⟩ x1) := by
  obtain ⟨c0, c1, f0, f1⟩ := hk.facts2
  have s0 := fun p m w => run_store Tryd.prog w p x0 m h1
  have s1 := fun p m w => run_store Tryd.prog w p x1 m h2
  simp only [execOp, ho, hx, hy]
  go_simp
theorem run_extract {x : Operand} {i : Nat} (ho : o.op = .extract x i) {vs : Array Value} {v : Value} (hx : a.eval x = .tuple vs) (hv : vs[i]? = some v) : (execOp a.eval o).run Tryd.prog w = .ok (.value v) w := by
  simp only [execOp, ho, hx]
  go_simp
theorem run_build1 {x : Operand} (ho : o.op = .buildSlice 32 1 #[(0, x)]) {x0 x1 x2 x3 x4 : Value} (hx : a.eval x = .agg #[x0, x1, x2, x3, x4]) :
    (execOp a.eval o).run Tryd.prog w = .ok (.value (.slice (some ⟨w.heap.size, 0, none⟩) 1 1)) (w.alloc (.cells #[x0, x1, x2, x3, x4] 34)) := by
  simp only [execOp, ho, List.map_toArray, List.map_cons, List.map_nil, hx]
  go_simp
theorem run_build2 {x y : Operand} (ho : o.op = .buildSlice 32 2 #[(0, x), (1, y)]) {x0 x1 x2 x3 x4 y0 y1 y2 y3 y4 : Value} (hx : a.eval x = .agg #[x0, x1, x2, x3, x4]) (hy : a.eval y = .agg #[y0, y1, y2, y3, y4]) :
    (execOp a.eval o).run Tryd.prog w = .ok (.value (.slice (some ⟨w.heap.size, 0, none⟩) 2 2)) (w.alloc (.cells #[x0, x1, x2, x3, x4, y0, y1, y2, y3, y4] 34)) := by
  simp only [execOp, ho, List.map_toArray, List.map_cons, List.map_nil, hx, hy]
  go_simp
theorem run_buildTy {x : Operand} (ho : o.op = .buildSlice 27 1 #[(0, x)]) {x0 x1 : Value} (hx : a.eval x = .agg #[x0, x1]) :
    (execOp a.eval o).run Tryd.prog w = .ok (.value (.slice (some ⟨w.heap.size, 0, none⟩) 1 1)) (w.alloc (.cells #[x0, x1] 30)) := by
  simp only [execOp, ho, List.map_toArray, List.map_cons, List.map_nil, hx]
  go_simp
end
end Go.Proofs.YtifijgihcincfaaDoor
namespace Go.Proofs.YtifijgihcincfaaDoor
open Go.RowKit

theorem Turn.far {X : Nat → Prop} {a b c : World} (h : Turn X a b) (k : Below a.heap.size b c) : Turn X a c :=
  ⟨k.os.trans h.os, k.tape.trans h.tape, k.output.trans h.output, Nat.le_trans h.size k.size, fun i hi hx => (k.block i hi).trans (h.block i hi hx)⟩
/-- Blocks of another kind than g, as of a world. -/
theorem blk_new1 (w : World) (o : Obj) (cs : Array Value) (t : TypeId) : Blk ((w.alloc o).alloc (.cells cs t)) (w.heap.size + 1) t cs := by
  have h := Blk.new (w.alloc o) t cs
  rwa [World.size_alloc] at h

/-- What append is given: a list of types, in cells that lie apart from the slice's own. -/
def Src (S : Nat → Prop) (v : Value) (w : World) (m : List Ty) (u : Value) : Prop :=
  (u = .slice none 0 0 ∧ m = []) ∨ ∃ ad c news, u = .slice (some ad) m.length c ∧ TyR.Ch (fun b => S b ∧ b < w.heap.size ∧ v.ownBlock ≠ some b) w m news ∧ ∀ j y, news[j]? = some y → w.cell? (ad.add j) = some y

theorem src_ctx {g : Nat} {R w : World} {G : List Ty} {s v : Value} (h : Ctx g R G s) (ht : Turn (· = g) R w) (hv : ∀ b, v.ownBlock = some b → R.heap.size ≤ b) : Src (Good (· = g) R) v w G s := by
  have hs : TyR.Sl (fun b => Good (· = g) R b ∧ b < w.heap.size ∧ v.ownBlock ≠ some b) w G s :=
    h.sl.keep (fun b hb => ⟨hb, Nat.lt_of_lt_of_le hb.2 ht.size, fun e => by have := hv b e; have := hb.2; omega⟩) (fun p hp => World.cell?_of_block (ht.block p.block hp.2 hp.1))
  rcases h.formed with rfl | ⟨a, n, c, rfl, _⟩
  · exact .inl ⟨rfl, hs.none_nil⟩
  · right
    obtain ⟨A, c', e, hA⟩ := hs
    simp only [Value.slice.injEq] at e
    obtain ⟨rfl, rfl, rfl⟩ := e
    by_cases hG : G = []
    · subst hG
      exact ⟨a, _, [], rfl, Rep.Ch.nil _ _, fun j y hy => by simp at hy⟩
    · obtain ⟨a', ea, _, har⟩ := hA hG
      cases ea
      obtain ⟨news, h1, h2⟩ := har.cells
      exact ⟨a, _, news, rfl, h1, h2⟩

theorem src_one {g q : Nat} {R w : World} {T : Ty} {x y v : Value} (hk : Blk w q 30 #[x, y]) (h : Typ g R T (.agg #[x, y])) (ht : Turn (· = g) R w) (hv : ∀ b, v.ownBlock = some b → R.heap.size ≤ b) :
    Src (Good (· = g) R) v w [T] (.slice (some ⟨q, 0, none⟩) 1 1) := by
  have hi : IsTy (fun b => Good (· = g) R b ∧ b < w.heap.size ∧ v.ownBlock ≠ some b) w T (.agg #[x, y]) :=
    IsTy.keep (fun b hb => ⟨hb, Nat.lt_of_lt_of_le hb.2 ht.size, fun e => by have := hv b e; have := hb.2; omega⟩) (fun p hp => World.cell?_of_block (ht.block p.block hp.2 hp.1)) _ h
  refine .inr ⟨_, 1, [x, y], rfl, Rep.Ch.one (R := TyR) (vs := [x, y]) hi, World.news_of_block hk⟩

theorem run_append_ty {w : World} {S : Nat → Prop} {base : Nat} {l m : List Ty} {v u : Value} (ty : TypeId) (hown : TyR.Own S base v l w) (hsrc : Src S v w m u) (hlen : l.length + m.length ≤ 1000000) (hbase : base ≤ w.heap.size) :
    ∃ v' w', (Builtin.append_ #[27, 27] ty #[v, u]).run Tryd.prog w = .ok v' w' ∧ TyR.Own S base v' (l ++ m) w' ∧ w.grownBy w' v.ownBlock ∧ (v'.ownBlock = v.ownBlock ∨ v'.ownBlock = some w.heap.size) := by
  obtain ⟨i0, hi, hz0, hz1, hz2⟩ := info_parts info_type
  obtain ⟨xs, hxo, hxc⟩ := hown
  rcases hsrc with ⟨rfl, rfl⟩ | ⟨ad, c, news, rfl, hnc, hnl⟩
  · refine ⟨v, w, run_append_owned_none (P := Tryd.prog) (w := w) base 27 ty 30 i0 2 Tryd.underlying27 hi v _ xs hxo, ?_, ⟨rfl, rfl, rfl, Nat.le_refl _, fun _ _ _ => rfl⟩, .inl rfl⟩
    rw [List.append_nil]
    exact ⟨xs, hxo, hxc⟩
  · obtain ⟨v', w', hr, h2, h3, _, h5⟩ := run_append_own_at (P := Tryd.prog) w base 27 ty 30 i0 _ 2 32 Tryd.underlying27 hi hz0 hz1 hz2 rfl (by decide) v _ xs hxo ad m.length c news hnc.1 hnl hnc.oneCells (by simp only [maxLen]; omega) (by omega) hbase
    exact ⟨v', w', hr, Rep.Own.more (R := TyR) hxo hxc hnc h2 h3 h5, h3, h5⟩

theorem step_append_ty {w : World} {ops : Array Oper} {o : Oper} {a : Act} {K : Act → World → Prop} {Q : Exit → Act → World → Prop} {E : Prop} (hgd : o.guard = none) (s x : Operand)
    (ho : o.op = .call { callee := .builtin .append, args := #[s, x], argTypes := #[27, 27] }) {S : Nat → Prop} {base : Nat} {l m : List Ty} {v u : Value} (hs : a.eval s = v) (hx : a.eval x = u)
    (hown : TyR.Own S base v l w) (hsrc : Src S v w m u) (hlen : l.length + m.length ≤ 1000000) (hbase : base ≤ w.heap.size)
    (h : ∀ v' w', TyR.Own S base v' (l ++ m) w' → w.grownBy w' v.ownBlock → (v'.ownBlock = v.ownBlock ∨ v'.ownBlock = some w.heap.size) → Below base w w' → K (a.put o.dst v') w') :
    if Region.wanted o (yielded ops a.tmps) = true then Oper.wp Tryd.prog o a w K Q else E := by
  have hw : Region.wanted o (yielded ops a.tmps) = true := by simp [Region.wanted, hgd]
  rw [if_pos hw]
  obtain ⟨v', w', hr, h1, h2, h3⟩ := run_append_ty (w := w) o.type hown hsrc hlen hbase
  unfold Oper.wp execOp
  simp only [ho, resolve, invoke, builtin, Sem.run_bind, Sem.run_pure, Result.andThen_ok, List.map_toArray, List.map_cons, List.map_nil, hs, hx, hr]
  exact h v' w' h1 h2 h3 ⟨h2.os, h2.tape, h2.output, h2.size, fun i hi => h2.block i (by omega) (fun e => by have := (hown.lt i e.symm).1; omega)⟩

/-- A slice of the call's own as a context. -/
theorem own_ctx {g : Nat} {R w : World} {v : Value} {l : List Ty} (h : TyR.Own (Good (· = g) R) R.heap.size v l w) (hR : g < R.heap.size) (hok : ∀ U ∈ l, U.ok = true ∧ U.nodes ≤ 3) : Ctx g w l v :=
  ⟨h.sl.keep (fun b hb => ⟨fun e => hb.1.elim (fun x => x.1 e) (fun x => by have e' : b = g := e; omega), hb.2⟩) (fun _ _ => rfl), own_formed h, hok⟩
theorem own_ne {v v' : Value} {n q : Nat} (h : v'.ownBlock = v.ownBlock ∨ v'.ownBlock = some n) (hv : v.ownBlock = none) (hq : q < n) : v'.ownBlock ≠ some q := by
  intro e
  rcases h with h | h
  · rw [h, hv] at e; cases e
  · rw [h] at e; cases e; omega
theorem own_far {S : Nat → Prop} {base q : Nat} {v : Value} {l : List Ty} {w : World} (h : TyR.Own S base v l w) (hq : w.heap.size ≤ q) : v.ownBlock ≠ some q := fun e => by have := (h.lt q e).2; omega
theorem Blk.grownNe {w w' : World} {q : Nat} {t : TypeId} {cs : Array Value} {row : Option Nat} (h : Blk w q t cs) (hg : w.grownBy w' row) (hne : row ≠ some q) : Blk w' q t cs := h.carry (hg.block q h.lt (fun e => hne e.symm))
end Go.Proofs.YtifijgihcincfaaDoor
namespace Go.Proofs.YtifijgihcincfaaDoor
open Go.RowKit

theorem built_pub {α : Type} {R : Rep α} {L L' : Nat → Prop} {w : World} {l : List α} {xs : List Value} (h : R.Ch (Good L w) w l xs) (hg : ∀ b, Good L w b → Good L' (w.alloc (.cells xs.toArray R.t)) b) (hn : ∀ b, w.heap.size ≤ b → b < (w.alloc (.cells xs.toArray R.t)).heap.size → Good L' (w.alloc (.cells xs.toArray R.t)) b) :
    R.Sl (Good L' (w.alloc (.cells xs.toArray R.t))) (w.alloc (.cells xs.toArray R.t)) l (.slice (some ⟨w.heap.size, 0, none⟩) l.length l.length) :=
  Rep.Sl.built h (fun _ hb => hb.2) _ hg (hn _ (Nat.le_refl _) (by simp))
theorem src_of {S : Nat → Prop} {w : World} {m : List Ty} {u v : Value} (hf : Formed u) (hs : TyR.Sl (fun b => S b ∧ b < w.heap.size ∧ v.ownBlock ≠ some b) w m u) : Src S v w m u := by
  rcases hf with rfl | ⟨a, n, c, rfl, _⟩
  · exact .inl ⟨rfl, hs.none_nil⟩
  · right
    obtain ⟨A, c', e, hA⟩ := hs
    simp only [Value.slice.injEq] at e
    obtain ⟨rfl, rfl, rfl⟩ := e
    by_cases hG : m = []
    · subst hG
      exact ⟨a, _, [], rfl, Rep.Ch.nil _ _, fun j y hy => by simp at hy⟩
    · obtain ⟨a', ea, _, har⟩ := hA hG
      cases ea
      obtain ⟨news, h1, h2⟩ := har.cells
      exact ⟨a, _, news, rfl, h1, h2⟩
theorem Own.mono' {α : Type} {R : Rep α} {S S' : Nat → Prop} {base : Nat} {v : Value} {l : List α} {w : World} (h : R.Own S base v l w) (hS : ∀ b, S b → b < w.heap.size → v.ownBlock ≠ some b → S' b) : R.Own S' base v l w := by
  obtain ⟨xs, hown, hc⟩ := h
  exact ⟨xs, hown, hc.keep (fun b hb => ⟨hS b hb.1 hb.2.1 hb.2.2, hb.2.1, hb.2.2⟩) (fun _ _ => rfl)⟩
theorem Own.slw {α : Type} {R : Rep α} {S : Nat → Prop} {base : Nat} {v : Value} {l : List α} {w : World} (h : R.Own S base v l w) : R.Sl (fun b => (S b ∨ v.ownBlock = some b) ∧ b < w.heap.size) w l v := by
  obtain ⟨xs, hown, hc⟩ := h
  rcases hown.2 with ⟨rfl, hn⟩ | ⟨g, cap, cur, rfl, hb, hg, _⟩
  · have : l = [] := List.eq_nil_of_length_eq_zero hn
    subst this
    exact Rep.Sl.nil _ _
  · exact ⟨_, cap, rfl, fun _ => ⟨_, rfl, ⟨.inr rfl, (Array.getElem?_eq_some_iff.1 hg).1⟩, Rep.Arr.of_cells (hc.keep (fun b hb => ⟨.inl hb.1, hb.2.1⟩) (fun _ _ => rfl)) (fun j u hu => hown.cells rfl j u hu)⟩⟩
/-- Nothing of the call's own yet. -/
theorem Own.nil' {α : Type} {R : Rep α} (S : Nat → Prop) (base : Nat) (w : World) : R.Own S base (.slice none 0 0) [] w := Rep.Own.nil S base w
/-! Operations behind a guard. -/
theorem Pre.wanted {γ : Type} {ops : Array Oper} {z : γ} {A : Nat → Nat → Bool} {cons : Nat → Option Nat} {F : Nat → (Nat → Value) → (Nat → γ) → RFact} {L0 W0 : Nat → Prop} {B : World → Prop} {a0 : Act} {w0 : World}
    {i : Nat} {V : Nat → Value} {G : Nat → γ} {L : Nat → Prop} {a : Act} {w : World} (h : Pre ops z A cons F L0 W0 B a0 w0 i V G L a w) {o : Oper} {j d : Nat} {b : Bool} (hg : o.guard = some (j, b)) (hA : A i j = true) (hd : dstOf ops j = some d) (hs : Nat.blt d a0.tmps.size = true) (hv : V j = .bool b) :
    Region.wanted o (yielded ops a.tmps) = true := by
  have h1 := h.dep j d hA hd (Nat.blt_eq.mp hs)
  have h2 : (ops[j]?).bind (·.dst) = some d := by
    unfold dstOf at hd
    cases ho : ops[j]? with
    | none => rw [ho] at hd; cases hd
    | some o' => rw [ho] at hd; exact hd
  unfold Region.wanted yielded
  rw [hg]
  simp only [h2, Option.bind_some, h1, hv, beq_self_eq_true]
section
variable {P : Program} {ops : Array Oper} {o : Oper} {a : Act} {w : World} {K : Act → World → Prop} {Q : Exit → Act → World → Prop} {E : Prop}
theorem step_runW (hw : Region.wanted o (yielded ops a.tmps) = true) {v : Value} {w' : World} (h : (execOp a.eval o).run P w = .ok (.value v) w') (hK : K (a.put o.dst v) w') : if Region.wanted o (yielded ops a.tmps) = true then Oper.wp P o a w K Q else E := by
  rw [if_pos hw]
  unfold Oper.wp
  rw [h]
  exact hK
theorem step_callW (hw : Region.wanted o (yielded ops a.tmps) = true) (f : FuncId) (os : Array Operand) (ts : Array TypeId) (ho : o.op = Op.call { callee := Callee.value (Operand.func f), args := os, argTypes := ts }) (vals : Array Value) (hv : os.map a.eval = vals) (hrun : ∀ args w, (callFunc f args).run P w = .ok (.enter f args) w)
    {R : Ending → World → Prop} (hc : Calls P f vals w R) (h : ∀ e w', R e w' → ∃ v, e = .returned v ∧ K (a.put o.dst v) w') : if Region.wanted o (yielded ops a.tmps) = true then Oper.wp P o a w K Q else E := by
  rw [if_pos hw]
  have hx : (execOp a.eval o).run P w = .ok (.enter f vals) w := by
    have := hrun vals w
    simp [execOp, ho, resolve, hv, Act.eval, invoke, Deferred.ofValue, this, go_sem]
  unfold Oper.wp
  rw [hx, Oper.upon_enter]
  refine hc.mono ?_
  intro e w' hr
  obtain ⟨v, rfl, hk⟩ := h e w' hr
  exact hk
end
section
variable {ops : Array Oper} {o : Oper} {a : Act} {w : World}
theorem run_addInt {x y : Operand} {t : TypeId} (ho : o.op = .binOp .add 3 x y t) {m n : Int} (hx : a.eval x = .int .i64 m) (hy : a.eval y = .int .i64 n) (h1 : -9223372036854775808 ≤ m + n) (h2 : m + n < 9223372036854775808) : (execOp a.eval o).run Tryd.prog w = .ok (.value (.int .i64 (m + n))) w := by
  have hw : IntKind.i64.wrap (m + n) = m + n := IntWalk.i64_in _ ⟨h1, by omega⟩
  simp only [execOp, ho, hx, hy]
  go_simp
theorem run_eqInt {x y : Operand} {t : TypeId} (ho : o.op = .binOp .eql 3 x y t) {m n : Int} (hx : a.eval x = .int .i64 m) (hy : a.eval y = .int .i64 n) : (execOp a.eval o).run Tryd.prog w = .ok (.value (.bool (m == n))) w := by
  simp only [execOp, ho, hx, hy]
  go_simp
theorem run_pick {c x y : Operand} (ho : o.op = .pick c x y) {b : Bool} {v : Value} (hc : a.eval c = .bool b) (hv : (if b then a.eval x else a.eval y) = v) : (execOp a.eval o).run Tryd.prog w = .ok (.value v) w := by
  simp only [execOp, ho, hc]
  rw [← hv]
  cases b <;> go_simp
end
end Go.Proofs.YtifijgihcincfaaDoor
namespace Go.Proofs.YtifijgihcincfaaDoor
open Go.RowKit

theorem bdN_two (T : Ty) : bdN 2 T ≤ 87 := by unfold bdN; split <;> decide
abbrev GP := Tm × Ty
def g0 : GP := (.void, .zero)
def p8A (i j : Nat) : Bool := ([0, 0, 0, 4, 15, 0, 0, 95, 0, 256, 991, 0, 4063, 8191, 0, 0, 65535, 131071].getD i 0).testBit j
def p8C (i : Nat) : Option Nat := if i = 7 then some 10 else if i = 14 then some 16 else if i = 15 then some 17 else none
def p8F (gg base : Nat) (CG : List Ty) (CV : Value) (CS : Ty) (SV : Value) (i : Nat) (V : Nat → Value) (G : Nat → GP) : RFact :=
  match i with
  | 0 => .pure (V 0 = .pointer (some ⟨gg, 0, none⟩))
  | 1 => .pure (V 1 = CV)
  | 2 => .pure (V 2 = .pointer (some ⟨gg, 0, none⟩))
  | 3 => .ty (G 3).2 (V 3) ((G 3).2.ok = true ∧ (G 3).2.nodes ≤ 3)
  | 4 => .tm (G 4).1 (V 4) (Made CG (G 3).2 (bdN 2 (G 3).2) (bdO 2 (G 3).2) (G 4).1)
  | 5 => .pure (V 5 = .pointer (some ⟨gg, 0, none⟩))
  | 6 => .pure (V 6 = CV)
  | 7 => .own TyR base CG (V 7) True
  | 8 => .pure (V 8 = SV)
  | 9 => .sl TyR [CS] (V 9) (Formed (V 9))
  | 10 => .sl TyR (CG ++ [CS]) (V 10) (Formed (V 10))
  | 11 => .pure (V 11 = .pointer (some ⟨gg, 0, none⟩))
  | 12 => .ty (G 12).2 (V 12) ((G 12).2.ok = true ∧ (G 12).2.nodes ≤ 3)
  | 13 => .tm (G 13).1 (V 13) (Made (CG ++ [CS]) (G 12).2 (bdN 2 (G 12).2) (bdO 2 (G 12).2) (G 13).1)
  | 14 => .box 34 #[.int .i64 0, .int .i64 0, .int .i64 0, .slice none 0 0, .slice none 0 0] (V 14)
  | 15 => .box 34 #[.int .i64 0, .int .i64 0, .int .i64 0, .slice none 0 0, .slice none 0 0] (V 15)
  | 16 => .boxv 34 (V 4) (V 14)
  | _ => .boxv 34 (V 13) (V 15)
abbrev G13 := Value × Int × Int
def g13 : G13 := (undef, 0, 0)
def p13A (i j : Nat) : Bool := ([0, 0, 0, 4, 14, 31, 63, 127, 255, 511, 511, 511, 0, 5119, 14335, 32767].getD i 0).testBit j
def p13C (i : Nat) : Option Nat := if i = 12 then some 13 else none
def p13F (x y a b : Tm) (CS : Ty) (XV YV SV : Value) (m n : Nat) (i : Nat) (V : Nat → Value) (G : Nat → G13) : RFact :=
  match i with
  | 0 => .pure (V 0 = XV)
  | 1 => .pure (V 1 = SV)
  | 2 => .pure (V 2 = YV)
  | 3 => .sl TmR [y] (V 3) True
  | 4 => .tm (.mk 2 0 CS [y]) (V 4) True
  | 5 => .sl TmR [x, (.mk 2 0 CS [y])] (V 5) True
  | 6 => .tm (.mk 10 0 .zero [x, (.mk 2 0 CS [y])]) (V 6) True
  | 7 => .pub (fun S w => V 7 = .tuple #[(G 7).1, .int .i64 (G 7).2.1, .int .i64 (G 7).2.2] ∧ (((G 7).2.2 = 4 ∧ IsTm S w (.mk 0 0 .zero []) (G 7).1) ∨ ((G 7).2.2 = 0 ∧ (G 7).2.1 = ((m + n : Nat) : Int) ∧ ((.mk 10 0 .zero [a, (.mk 2 0 CS [b])]) : Tm).bulk ≤ 390000 ∧ IsTm S w (.mk 10 0 .zero [a, (.mk 2 0 CS [b])]) (G 7).1))) fun hS hc h => ⟨h.1, h.2.imp (fun k => ⟨k.1, IsTm.keep hS hc _ k.2⟩) (fun k => ⟨k.1, k.2.1, k.2.2.1, IsTm.keep hS hc _ k.2.2.2⟩)⟩
  | 8 => .pure (V 8 = .tuple #[(G 7).1, .int .i64 (G 7).2.1, .int .i64 (G 7).2.2])
  | 9 => .pure (V 9 = (G 7).1)
  | 10 => .pure (V 10 = .int .i64 (G 7).2.1)
  | 11 => .pure (V 11 = .int .i64 (G 7).2.2)
  | 12 => .box 34 #[.int .i64 0, .int .i64 0, .int .i64 0, .slice none 0 0, .slice none 0 0] (V 12)
  | 13 => .boxv 34 (G 7).1 (V 12)
  | 14 => .pure (V 14 = .int .i64 (G 7).2.1)
  | _ => .pure (V 15 = .int .i64 (G 7).2.2)
def p16A (i j : Nat) : Bool := ([0, 0, 0, 6, 15, 31, 63, 63, 63, 63, 575, 1855, 4031, 8127, 16383, 32767, 65535].getD i 0).testBit j
def p16F (a b : Tm) (CS : Ty) (RV AV SV BV : Value) (m n : Nat) (i : Nat) (V : Nat → Value) (_ : Nat → Unit) : RFact :=
  match i with
  | 0 => .pure (V 0 = .int .i64 ((m + n : Nat) : Int))
  | 1 => .pure (V 1 = .int .i64 (m : Int))
  | 2 => .pure (V 2 = .int .i64 (n : Int))
  | 3 => .pure (V 3 = .int .i64 ((m : Int) + (n : Int)))
  | 4 => .pure (V 4 = .bool true)
  | 5 => .pure (V 5 = .bool true)
  | 6 => .pure (V 6 = RV)
  | 7 => .pure (V 7 = AV)
  | 8 => .pure (V 8 = SV)
  | 9 => .pure (V 9 = BV)
  | 10 => .sl TmR [b] (V 10) True
  | 11 => .tm (.mk 2 0 CS [b]) (V 11) True
  | 12 => .sl TmR [a, (.mk 2 0 CS [b])] (V 12) True
  | 13 => .tm (.mk 10 0 .zero [a, (.mk 2 0 CS [b])]) (V 13) True
  | 14 => .pure (V 14 = .bool true)
  | 15 => .pure (V 15 = .bool true)
  | _ => .pure (V 16 = .bool true)
set_option maxRecDepth 100000 in
set_option maxHeartbeats 8000000 in
theorem partsLaw_small (A : Option Addr) (len cap : Nat) (w : World) (htab : Tab w) (hlen : len ≤ 500) (hA : ∀ i, i < len → ∃ a x, A = some a ∧ a.block < w.heap.size ∧ w.cell? (a.add i) = some (.int .i64 x)) :
    Calls Tryd.prog 3 #[.slice A len cap] w fun e w' => e = .returned (.bool true) ∧ Below w.heap.size w w' := by
  have hA' := Lib.hid hA
  have HTab := Lib.hid htab
  clear hA htab
  have e500 : decide ((len : Int) ≤ 500) = true := by simp; omega
  go_enter Tryd.func3, Tryd.ntmps3
  go_wp2_with fail
  refine (saneR_any w HTab.out).mono ?_
  rintro e w1 ⟨rfl, hb1⟩
  go_wp2_with fail
  refine (few_any A len cap w1 (by simp only [maxLen]; omega)).mono ?_
  rintro e w1' ⟨rfl, rfl⟩
  rw [e500]
  go_wp2_with fail
  have hA1 : ∀ i, i < len → ∃ a x, A = some a ∧ a.block < w1.heap.size ∧ w1.cell? (a.add i) = some (.int .i64 x) := fun i hi => by
    obtain ⟨a, x, h1, h2, h3⟩ := hA'.out i hi
    exact ⟨a, x, h1, Nat.lt_of_lt_of_le h2 hb1.size, (hb1.cell (by rw [add_block]; exact h2)).trans h3⟩
  refine (new_any A len cap w1 hlen hA1).mono ?_
  rintro e w2 ⟨rfl, hw2⟩
  have hd2 := new_deck A len cap w1 hlen hA1
  rw [hw2] at hd2
  have b_w2 : Below w.heap.size w w2 := by rw [← hw2]; exact hb1.alloc hb1.size _
  have hgw : w.heap.size ≤ w1.heap.size := hb1.size
  have hgz : w1.heap.size < w2.heap.size := by rw [← hw2]; simp
  clear hw2 hA1 hb1
  generalize w1.heap.size = gg at hd2 hgw hgz ⊢
  have HD2 := Lib.hid hd2
  have HGW := Lib.hid (And.intro hgw hgz)
  have HB2 := Lib.hid b_w2
  clear hd2 b_w2 hgw hgz
  go_wp2_with fail
  refine (mkContext_any gg w2 HD2.out).mono ?_
  rintro e w3 ⟨CG, CV, rfl, hG3, hGok, hGs, hGf, hGnil, hd3, hg3⟩
  have hs3 := hg3.size
  have HS3 := Lib.hid (show TyR.Sl (Good (· = gg) w3) w3 CG CV from hGs.keep (fun b hb => ⟨by have := hb.1; have := HGW.out.2; omega, hb.2⟩) (fun _ _ => rfl))
  have HD3 := Lib.hid hd3
  have HB3 := Lib.hid (HB2.out.trans ((turn_of hg3).toBelow (fun k hk e => by have := HGW.out.1; omega) HB2.out.size))
  have HGC := Lib.hid (And.intro hGf (And.intro hGok hG3))
  clear hG3 hGok hGs hGf hGnil hd3 hg3 hs3
  go_wp2_with fail
  refine (type_any 0 0 gg w3 (by omega) (by omega) (by omega) HD3.out).mono ?_
  rintro e w7 ⟨CS, vT, rfl, okT, szT, tyT, hd7, hg7⟩
  obtain ⟨A7, c7, rfl⟩ := tyT.form
  obtain ⟨X, hX, bX, zX, kX⟩ : ∃ X, X = w7.alloc (.cells #[.int .i64 CS.kind, .slice A7 CS.args.length c7] 30) ∧ Below w7.heap.size w7 X ∧ X.heap.size = w7.heap.size + 1 ∧ Blk X w7.heap.size 30 #[.int .i64 CS.kind, .slice A7 CS.args.length c7] := ⟨_, rfl, (Below.refl _ _).alloc (Nat.le_refl _) _, by simp, Blk.new _ _ _⟩
  have ht7 := turn_of hg7
  have hs7 := ht7.size
  have KS := Lib.hid kX
  have HDX := Lib.hid (show Deck X.drew gg from (hd7.call bX).call (show Below X.heap.size X X.drew from (Below.refl _ _).drew))
  have HGZ := Lib.hid (show gg < X.drew.heap.size from HDX.out.lt)
  have HNE := Lib.hid (show ¬ w7.heap.size = gg from fun e => by have := hd7.lt; omega)
  have HFM := Lib.hid (And.intro HGC.out.1 (And.intro HGC.out.2.1 (And.intro HGC.out.2.2 (And.intro okT (show CS.nodes ≤ 3 by simp at szT; omega)))))
  have HSL := Lib.hid (show TyR.Sl (Good (· = gg) X.drew) X.drew CG CV from HS3.out.keep (w := w3) (w' := X.drew) (fun b hb => ⟨hb.1, by have := hb.2; show b < X.heap.size; omega⟩) (fun p hp => (bX.cell (by have := hp.2; omega)).trans (World.cell?_of_block (ht7.block p.block hp.2 hp.1))))
  have TS := Lib.hid (show IsTy (Good (· = gg) X.drew) X.drew CS _ from IsTy.keep (w' := X.drew) (fun b hb => ⟨by have := hb.1; have := HD3.out.lt; omega, by have := hb.2; show b < X.heap.size; omega⟩) (fun p hp => bX.cell hp.2) _ tyT)
  have HBX := Lib.hid ((HB3.out.trans (ht7.toBelow (fun k hk e => by have := HGW.out.1; omega) HB3.out.size)).trans (bX.mono (by have := HB3.out.size; omega)))
  have HX := Lib.hid hX
  have HK7 := Lib.hid (And.intro zX HGW.out.1)
  clear okT szT tyT hd7 hg7 hX bX zX kX ht7 hs7 HS3 HGC
  go_upto_region 8 with fail
  rw [← HX.out]
  refine wp_region_any (by kernel_rfl) ?_
  change wpAny _ _ _ _ _ _ _ (World.drew _)
  refine wpAny_facts (by kernel_rfl) (by kernel_rfl) g0 p8A (by kernel_rfl) p8C (by kernel_rfl) (p8F gg X.drew.heap.size CG CV CS (.agg #[.int .i64 CS.kind, .slice A7 CS.args.length c7])) (· = gg) (· = gg) (fun w => Deck w gg) _ _ (fun b h => by have h' : b = gg := h; rw [h']; exact HGZ.out) (fun _ h => h) HDX.out ⟨?_, ?_, ?_, ?_, ?_, ?_, ?_, ?_, ?_, ?_, ?_, ?_, ?_, ?_, ?_, ?_, ?_, ?_, trivial⟩ ?_
  · intro V G L a1 w1 hp K hK
    refine step_run rfl (run_move rfl (hp.slot0 3 _ rfl rfl)) ?_
    exact hK _ g0 _ (Post.still rfl hp.base hp.lt fun L' _ => rfl)
  · intro V G L a1 w1 hp K hK
    refine step_run rfl (run_move rfl (hp.slot0 4 _ rfl rfl)) ?_
    exact hK _ g0 _ (Post.still rfl hp.base hp.lt fun L' _ => rfl)
  · intro V G L a1 w1 hp K hK
    refine step_run rfl (run_move rfl (hp.slot0 3 _ rfl rfl)) ?_
    exact hK _ g0 _ (Post.still rfl hp.base hp.lt fun L' _ => rfl)
  · intro V G L a1 w1 hp K hK
    have f2 : V 2 = .pointer (some ⟨gg, 0, none⟩) := hp.fact 2 rfl
    have e2 := hp.slot 2 30 rfl rfl rfl
    rw [f2] at e2
    have ek : a1.eval (.const (.int .i64 1)) = .int .i64 1 := rfl
    refine step_call rfl _ _ _ rfl _ (by simp only [List.map_toArray, List.map_cons, List.map_nil, ek, e2]) (enters_of Tryd.func10 (by kernel_rfl) rfl) (type_any 1 1 gg w1 (by omega) (by omega) (by omega) hp.base) ?_
    rintro e w' ⟨T, v, rfl, okT, szT, tyT, hd, hg⟩
    have h3 : T.nodes ≤ 3 := by simp at szT; omega
    exact ⟨_, rfl, hK _ (.void, T) _ (Post.of rfl (turn_of hg) hd hp.lt fun L' _ hn => ⟨IsTy.keep (fun b h => hn b h.1 h.2) (fun _ _ => rfl) _ tyT, okT, h3⟩)⟩
  · intro V G L a1 w1 hp K hK
    have f0 : V 0 = .pointer (some ⟨gg, 0, none⟩) := hp.fact 0 rfl
    have e0 := hp.slot 0 28 rfl rfl rfl
    rw [f0] at e0
    have e1 := hp.slot 1 29 rfl rfl rfl
    have f1 : V 1 = CV := hp.fact 1 rfl
    rw [f1] at e1
    have f3 : IsTy (Good L w1) w1 (G 3).2 (V 3) ∧ (G 3).2.ok = true ∧ (G 3).2.nodes ≤ 3 := hp.fact 3 rfl
    have e3 := hp.slot 3 31 rfl rfl rfl
    have ek : a1.eval (.const (.int .i64 2)) = .int .i64 2 := rfl
    have hgd : ∀ b, Good L w1 b → Good (· = gg) w1 b := fun b h => ⟨fun e => h.1 (hp.mem b e), h.2⟩
    have h2 : (2 : Int).toNat = 2 := rfl
    have hc : Ctx gg w1 CG CV := ⟨(hp.sl0 HSL.out).keep hgd (fun _ _ => rfl), HFM.out.1, HFM.out.2.1⟩
    refine step_call rfl _ _ _ rfl _ (by simp only [List.map_toArray, List.map_cons, List.map_nil, ek, e0, e1, e3]) (enters_of Tryd.func11 (by kernel_rfl) rfl) (term_any gg 100 CG (G 3).2 2 _ (V 3) w1 (by omega) (by omega) (by omega) (by have := HFM.out.2.2.1; omega) f3.2.1 f3.2.2 hc (IsTy.keep hgd (fun _ _ => rfl) _ f3.1) hp.base) ?_
    rintro e w' ⟨X, v, rfl, mX, tX, hd, ht⟩
    exact ⟨_, rfl, hK _ (X, .zero) _ (Post.of rfl ht hd hp.lt fun L' _ hn => ⟨IsTm.keep (fun b h => hn b h.1 h.2) (fun _ _ => rfl) _ tX, mX⟩)⟩
  · intro V G L a1 w1 hp K hK
    refine step_run rfl (run_move rfl (hp.slot0 3 _ rfl rfl)) ?_
    exact hK _ g0 _ (Post.still rfl hp.base hp.lt fun L' _ => rfl)
  · intro V G L a1 w1 hp K hK
    refine step_run rfl (run_move rfl (hp.slot0 4 _ rfl rfl)) ?_
    exact hK _ g0 _ (Post.still rfl hp.base hp.lt fun L' _ => rfl)
  · intro V G L a1 w1 hp K hK
    have f6 : V 6 = CV := hp.fact 6 rfl
    have e6 := hp.slot 6 34 rfl rfl rfl
    rw [f6] at e6
    have ek : a1.eval (.const (.slice none 0 0)) = .slice none 0 0 := rfl
    have hsl : TyR.Sl (fun b => (fun b => ¬ L b) b ∧ b < w1.heap.size ∧ (Value.slice none 0 0).ownBlock ≠ some b) w1 CG CV := (hp.sl0 HSL.out).keep (fun b h => ⟨h.1, h.2, fun e => by cases e⟩) (fun _ _ => rfl)
    refine step_append_ty rfl _ _ rfl (S := fun b => ¬ L b) (base := X.drew.heap.size) (l := []) (m := CG) ek e6 (Own.nil' _ _ _) (src_of HFM.out.1 hsl) (by have := HFM.out.2.2.1; simp only [List.length_nil]; omega) hp.grown.size ?_
    intro v' w' hown hgr hat hbl
    refine hK v' g0 w' ⟨Turn.grown hgr (fun k e => by cases e), hp.base.grown hgr (fun k e => by cases e), fun L' h1 _ => ⟨Own.mono' hown (fun b hb hlt hne hL' => (h1 b hL').elim (fun h => hb h.1) hne), trivial⟩, fun b hb => .inl ?_⟩
    have hb' : v'.ownBlock = some b := hb
    have hlt := (hown.lt b hb').2
    rcases hat with h | h
    · rw [h] at hb'; cases hb'
    · rw [h] at hb'; cases hb'; exact ⟨Nat.le_refl _, hlt⟩
  · intro V G L a1 w1 hp K hK
    refine step_run rfl (run_load2 rfl (hp.slot0 5 _ rfl rfl) (hp.blk0 KS.out.drew HNE.out)) ?_
    exact hK _ g0 _ (Post.still rfl hp.base hp.lt fun L' _ => rfl)
  · intro V G L a1 w1 hp K hK
    have f8 : V 8 = .agg #[.int .i64 CS.kind, .slice A7 CS.args.length c7] := hp.fact 8 rfl
    have e8 := hp.slot 8 36 rfl rfl rfl
    rw [f8] at e8
    have hty := hp.ty0 TS.out
    refine step_run rfl (run_buildTy rfl e8) ?_
    exact hK _ g0 _ (Post.of rfl (Turn.alloc _ _) (hp.base.box _) hp.lt fun L' hg hn => ⟨built_pub (R := TyR) (l := [CS]) (xs := [_, _]) (Rep.Ch.one (R := TyR) (vs := [_, _]) hty) (fun b h => ⟨(hg b h).1, by have := h.2; simp; omega⟩) hn, .inr ⟨_, _, _, rfl, Nat.le_refl _⟩⟩)
  · intro V G L a1 w1 hp K hK
    have f7 : TyR.Own (fun b => ¬ L b) X.drew.heap.size (V 7) CG w1 ∧ True := hp.fact 7 rfl
    have e7 := hp.slot 7 35 rfl rfl rfl
    have f9 : TyR.Sl (Good L w1) w1 [CS] (V 9) ∧ Formed (V 9) := hp.fact 9 rfl
    have e9 := hp.slot 9 37 rfl rfl rfl
    have hsl : TyR.Sl (fun b => (fun b => ¬ L b) b ∧ b < w1.heap.size ∧ (V 7).ownBlock ≠ some b) w1 [CS] (V 9) := f9.1.keep (fun b h => ⟨h.1, h.2, fun e => h.1 (hp.own 7 b rfl e).1⟩) (fun _ _ => rfl)
    refine step_append_ty rfl _ _ rfl (S := fun b => ¬ L b) (base := X.drew.heap.size) (l := CG) (m := [CS]) e7 e9 f7.1 (src_of f9.2 hsl) (by have := HFM.out.2.2.1; simp only [List.length_nil, List.length_cons]; omega) hp.grown.size ?_
    intro v' w' hown hgr hat hbl
    refine hK v' g0 w' ⟨Turn.grown hgr (fun k e => .inr ⟨7, rfl, rfl, e⟩), hp.base.grown hgr (fun k e => by have := (hp.own 7 k rfl e).2; have := HGZ.out; omega), fun L' h1 _ => ⟨(Own.slw hown).keep (fun b hb => ⟨fun hL' => ?_, hb.2⟩) (fun _ _ => rfl), own_formed hown⟩, fun b hb => by cases hb⟩
    rcases h1 b hL' with h | h
    · rcases hb.1 with hb1 | hb1
      · exact hb1 h.1
      · rcases hat with e | e
        · exact h.2 7 rfl rfl (show (V 7).ownBlock = some b from e ▸ hb1)
        · rw [e] at hb1; cases hb1; exact absurd (hp.lt _ h.1) (Nat.lt_irrefl _)
    · cases h
  · intro V G L a1 w1 hp K hK
    refine step_run rfl (run_move rfl (hp.slot0 3 _ rfl rfl)) ?_
    exact hK _ g0 _ (Post.still rfl hp.base hp.lt fun L' _ => rfl)
  · intro V G L a1 w1 hp K hK
    have f11 : V 11 = .pointer (some ⟨gg, 0, none⟩) := hp.fact 11 rfl
    have e11 := hp.slot 11 39 rfl rfl rfl
    rw [f11] at e11
    have ek : a1.eval (.const (.int .i64 1)) = .int .i64 1 := rfl
    refine step_call rfl _ _ _ rfl _ (by simp only [List.map_toArray, List.map_cons, List.map_nil, ek, e11]) (enters_of Tryd.func10 (by kernel_rfl) rfl) (type_any 1 1 gg w1 (by omega) (by omega) (by omega) hp.base) ?_
    rintro e w' ⟨T, v, rfl, okT, szT, tyT, hd, hg⟩
    have h3 : T.nodes ≤ 3 := by simp at szT; omega
    exact ⟨_, rfl, hK _ (.void, T) _ (Post.of rfl (turn_of hg) hd hp.lt fun L' _ hn => ⟨IsTy.keep (fun b h => hn b h.1 h.2) (fun _ _ => rfl) _ tyT, okT, h3⟩)⟩
  · intro V G L a1 w1 hp K hK
    have f5 : V 5 = .pointer (some ⟨gg, 0, none⟩) := hp.fact 5 rfl
    have e5 := hp.slot 5 33 rfl rfl rfl
    rw [f5] at e5
    have e10 := hp.slot 10 38 rfl rfl rfl
    have f10 : TyR.Sl (Good L w1) w1 (CG ++ [CS]) (V 10) ∧ Formed (V 10) := hp.fact 10 rfl
    have f12 : IsTy (Good L w1) w1 (G 12).2 (V 12) ∧ (G 12).2.ok = true ∧ (G 12).2.nodes ≤ 3 := hp.fact 12 rfl
    have e12 := hp.slot 12 40 rfl rfl rfl
    have ek : a1.eval (.const (.int .i64 2)) = .int .i64 2 := rfl
    have hgd : ∀ b, Good L w1 b → Good (· = gg) w1 b := fun b h => ⟨fun e => h.1 (hp.mem b e), h.2⟩
    have h2 : (2 : Int).toNat = 2 := rfl
    have hc : Ctx gg w1 (CG ++ [CS]) (V 10) := ⟨f10.1.keep hgd (fun _ _ => rfl), f10.2, fun U hU => (List.mem_append.1 hU).elim (HFM.out.2.1 U) (fun h => by rw [List.mem_singleton.1 h]; exact HFM.out.2.2.2)⟩
    refine step_call rfl _ _ _ rfl _ (by simp only [List.map_toArray, List.map_cons, List.map_nil, ek, e5, e10, e12]) (enters_of Tryd.func11 (by kernel_rfl) rfl) (term_any gg 100 (CG ++ [CS]) (G 12).2 2 _ (V 12) w1 (by omega) (by omega) (by omega) (by have := HFM.out.2.2.1; simp only [List.length_append, List.length_cons, List.length_nil]; omega) f12.2.1 f12.2.2 hc (IsTy.keep hgd (fun _ _ => rfl) _ f12.1) hp.base) ?_
    rintro e w' ⟨X, v, rfl, mX, tX, hd, ht⟩
    exact ⟨_, rfl, hK _ (X, .zero) _ (Post.of rfl ht hd hp.lt fun L' _ hn => ⟨IsTm.keep (fun b h => hn b h.1 h.2) (fun _ _ => rfl) _ tX, mX⟩)⟩
  · intro V G L a1 w1 hp K hK
    exact step_run rfl (run_alloc5 rfl) (hK _ g0 _ (Post.made rfl (hp.base.box _)))
  · intro V G L a1 w1 hp K hK
    exact step_run rfl (run_alloc5 rfl) (hK _ g0 _ (Post.made rfl (hp.base.box _)))
  · intro V G L a1 w1 hp K hK
    have f4 : IsTm (Good L w1) w1 (G 4).1 (V 4) ∧ Made CG (G 3).2 (bdN 2 (G 3).2) (bdO 2 (G 3).2) (G 4).1 := hp.fact 4 rfl
    obtain ⟨b, hv, hk⟩ : ∃ b, V 14 = .pointer (some ⟨b, 0, none⟩) ∧ Blk w1 b _ _ := hp.fact 14 rfl
    have hbg : gg ≠ b := fun e => by have := (hp.own 14 b rfl (by show ptrBlk (V 14) = _; rw [hv]; rfl)).2; have := HGZ.out; omega
    have e0 := hp.slot 14 6 rfl rfl rfl
    have e1 := hp.slot 4 32 rfl rfl rfl
    obtain ⟨B9, d9, A9, c9, h9, _⟩ := f4.1.form
    rw [hv] at e0
    rw [h9] at e1
    refine step_skip' rfl (run_store5 rfl e0 e1 rfl rfl rfl rfl rfl hk) (hK _ g0 _ (Post.filled (j := 14) rfl rfl (by show ptrBlk (V 14) = _; rw [hv]; rfl) ?_ hk (hp.base.grown (only_set5 w1 b _ _ _ _ _) (fun k e => by cases e; have := (hp.own 14 b rfl (by show ptrBlk (V 14) = _; rw [hv]; rfl)).2; have := HGZ.out; omega))))
    show RFact.boxv _ (V 4) (V 14) = _
    rw [hv, h9]
  · intro V G L a1 w1 hp K hK
    have f13 : IsTm (Good L w1) w1 (G 13).1 (V 13) ∧ Made (CG ++ [CS]) (G 12).2 (bdN 2 (G 12).2) (bdO 2 (G 12).2) (G 13).1 := hp.fact 13 rfl
    obtain ⟨b, hv, hk⟩ : ∃ b, V 15 = .pointer (some ⟨b, 0, none⟩) ∧ Blk w1 b _ _ := hp.fact 15 rfl
    have hbg : gg ≠ b := fun e => by have := (hp.own 15 b rfl (by show ptrBlk (V 15) = _; rw [hv]; rfl)).2; have := HGZ.out; omega
    have e0 := hp.slot 15 7 rfl rfl rfl
    have e1 := hp.slot 13 41 rfl rfl rfl
    obtain ⟨B9, d9, A9, c9, h9, _⟩ := f13.1.form
    rw [hv] at e0
    rw [h9] at e1
    refine step_skip' rfl (run_store5 rfl e0 e1 rfl rfl rfl rfl rfl hk) (hK _ g0 _ (Post.filled (j := 15) rfl rfl (by show ptrBlk (V 15) = _; rw [hv]; rfl) ?_ hk (hp.base.grown (only_set5 w1 b _ _ _ _ _) (fun k e => by cases e; have := (hp.own 15 b rfl (by show ptrBlk (V 15) = _; rw [hv]; rfl)).2; have := HGZ.out; omega))))
    show RFact.boxv _ (V 13) (V 15) = _
    rw [hv, h9]
  · intro V G w8 L hg hD hf hL hd
    obtain ⟨tx, mx⟩ : IsTm (Good L w8) w8 (G 4).1 (V 4) ∧ Made CG (G 3).2 (bdN 2 (G 3).2) (bdO 2 (G 3).2) (G 4).1 := (hf 4 (by decide) rfl).1
    obtain ⟨ty, my⟩ : IsTm (Good L w8) w8 (G 13).1 (V 13) ∧ Made (CG ++ [CS]) (G 12).2 (bdN 2 (G 12).2) (bdO 2 (G 12).2) (G 13).1 := (hf 13 (by decide) rfl).1
    have okx : (G 3).2.nodes ≤ 3 := ((hf 3 (by decide) rfl).1 : IsTy _ _ _ _ ∧ _ ∧ _).2.2
    have oky : (G 12).2.nodes ≤ 3 := ((hf 12 (by decide) rfl).1 : IsTy _ _ _ _ ∧ _ ∧ _).2.2
    obtain ⟨p, cx, hcx, hvx, hkx⟩ : ∃ b c, V 4 = .agg c ∧ V 14 = .pointer (some ⟨b, 0, none⟩) ∧ Blk w8 b _ c := (hf 16 (by decide) rfl).1
    obtain ⟨q, cy, hcy, hvy, hky⟩ : ∃ b c, V 13 = .agg c ∧ V 15 = .pointer (some ⟨b, 0, none⟩) ∧ Blk w8 b _ c := (hf 17 (by decide) rfl).1
    obtain ⟨x, hx⟩ : ∃ x, x = (G 4).1 := ⟨_, rfl⟩
    obtain ⟨y, hy⟩ : ∃ y, y = (G 13).1 := ⟨_, rfl⟩
    obtain ⟨Tx, hTx⟩ : ∃ x, x = (G 3).2 := ⟨_, rfl⟩
    obtain ⟨Ty', hTy⟩ : ∃ x, x = (G 12).2 := ⟨_, rfl⟩
    rw [← hx, ← hTx] at mx
    rw [← hy, ← hTy] at my
    rw [← hx] at tx
    rw [← hy] at ty
    rw [← hTx] at okx
    rw [← hTy] at oky
    obtain ⟨B1, d1, A1, c1, h1, _⟩ := tx.form
    obtain ⟨B2, d2, A2, c2, h2, _⟩ := ty.form
    rw [h1] at hcx tx
    rw [h2] at hcy ty
    cases hcx
    cases hcy
    have hdiff : ∀ b, L b → b = gg ∨ X.drew.heap.size ≤ b := fun b hb => ((hL b).1 hb).imp id (fun ⟨i, hi, hc, he⟩ => ((hf i hi hc).2 b he).1)
    have TX := Lib.hid (show IsTm (· < w8.heap.size) w8 x _ from IsTm.keep (fun b h => h.2) (fun _ _ => rfl) _ tx)
    have TY := Lib.hid (show IsTm (· < w8.heap.size) w8 y _ from IsTm.keep (fun b h => h.2) (fun _ _ => rfl) _ ty)
    have KX := Lib.hid hkx
    have KY := Lib.hid hky
    have MX := Lib.hid (And.intro mx okx)
    have MY := Lib.hid (And.intro my oky)
    have KS8 := Lib.hid (hg.blk KS.out.drew HNE.out)
    have TS8 := Lib.hid (show IsTy (· < w8.heap.size) w8 CS _ from IsTy.keep (fun b hb => Nat.lt_of_lt_of_le hb.2 hg.size) (fun p hp => World.cell?_of_block (hg.block p.block hp.2 hp.1)) _ TS.out)
    have HB8 := Lib.hid (HBX.out.trans (show Below w.heap.size X w8 from ⟨hg.os, hg.tape, hg.output, hg.size, fun k hk => hg.block k (by have := HBX.out.size; show k < X.heap.size; omega) (fun e => by have e' : k = gg := e; have := HK7.out.2; omega)⟩))
    simp only [putFrom, dstOf, Act.put, List.size_toArray, List.length_cons, List.length_nil, Nat.zero_add, Nat.reduceAdd, List.getElem?_toArray, List.getElem?_cons_zero, List.getElem?_cons_succ, List.setIfInBounds_toArray, List.set_cons_zero, List.set_cons_succ, hvx, hvy, h1, h2]
    clear hg hD hf hL hd tx ty mx my okx oky hvx hvy hkx hky hx hy hTx hTy h1 h2 hdiff
    have hv0 : ∀ i, ∃ v, v = V i := fun i => ⟨_, rfl⟩
    obtain ⟨v0, hq⟩ := hv0 0; rw [← hq]; clear hq
    obtain ⟨v1, hq⟩ := hv0 1; rw [← hq]; clear hq
    obtain ⟨v2, hq⟩ := hv0 2; rw [← hq]; clear hq
    obtain ⟨v3, hq⟩ := hv0 3; rw [← hq]; clear hq
    obtain ⟨v5, hq⟩ := hv0 5; rw [← hq]; clear hq
    obtain ⟨v6, hq⟩ := hv0 6; rw [← hq]; clear hq
    obtain ⟨v7, hq⟩ := hv0 7; rw [← hq]; clear hq
    obtain ⟨v8, hq⟩ := hv0 8; rw [← hq]; clear hq
    obtain ⟨v9, hq⟩ := hv0 9; rw [← hq]; clear hq
    obtain ⟨v10, hq⟩ := hv0 10; rw [← hq]; clear hq
    obtain ⟨v11, hq⟩ := hv0 11; rw [← hq]; clear hq
    obtain ⟨v12, hq⟩ := hv0 12; rw [← hq]; clear hq
    clear hv0
    have bx := MX.out.1.bulk_le (by have := bdN_two Tx; omega)
    have b_y := MY.out.1.bulk_le (by have := bdN_two Ty'; omega)
    have szx := MX.out.1.size
    have szy := MY.out.1.size
    have h87 := bdN_two Tx
    have h87' := bdN_two Ty'
    have lenG := HFM.out.2.2.1
    have HNX := Lib.hid fun (w' : World) (h : Below w8.heap.size w8 w') => normal_any x _ (· < w8.heap.size) 300 w' (by omega) (made_err6 MX.out.1 (by omega)) (made_low6 MX.out.1 (by omega) (by omega)) (by omega) (HTab.out.after (HB8.out.trans (h.mono HB8.out.size))) (fun b hb => Nat.lt_of_lt_of_le hb h.size) (IsTm.keep (fun _ hb => hb) (fun p hp => h.cell hp) _ TX.out)
    have HNY := Lib.hid fun (w' : World) (h : Below w8.heap.size w8 w') => normal_any y _ (· < w8.heap.size) 300 w' (by omega) (made_err6 MY.out.1 (by omega)) (made_low6 MY.out.1 (by simp only [List.length_append, List.length_cons, List.length_nil]; omega) (by omega)) (by omega) (HTab.out.after (HB8.out.trans (h.mono HB8.out.size))) (fun b hb => Nat.lt_of_lt_of_le hb h.size) (IsTm.keep (fun _ hb => hb) (fun p hp => h.cell hp) _ TY.out)
    clear bx b_y szx szy h87 h87' lenG
    obtain ⟨p0, p1, p2, p3, p4, _, _, _, _, _⟩ := KX.out.facts5
    go_wp2_with fail
    refine (HNX.out w8 (Below.refl _ _)).mono ?_
    rintro en w9 ⟨b9, h9⟩
    obtain ⟨xm, xe, va, a, hva, hen, hxe⟩ : ∃ (xm xe : Int) (va : Value) (a : Tm), IsTm (· < w9.heap.size) w9 a va ∧ en = .returned (.tuple #[va, .int .i64 xm, .int .i64 xe]) ∧ ((∃ m : Nat, xm = m ∧ xe = 0 ∧ Ends 0 (fun _ => false) 300 m x a 0) ∨ xe = 4 ∨ xe = 5) := by
      rcases h9 with ⟨u, m, v', rfl, ht, hE⟩ | ⟨u, m, er, her, rfl, hE⟩
      · exact ⟨m, 0, v', u, ht.keep (fun b h => h.2) (fun _ _ => rfl), rfl, .inl ⟨m, rfl, rfl, hE⟩⟩
      · exact ⟨0, er, _, .mk 0 0 .zero [], isTm_iff.2 ⟨rfl, rfl, IsTy.leaf _ _ _, Rep.Sl.nil _ _⟩, rfl, .inr her⟩
    subst hen
    obtain ⟨B3, d3, A3', c3', rfl, _⟩ := hva.form
    have TA := Lib.hid hva
    have HXE := Lib.hid hxe
    have B9 := Lib.hid b9
    obtain ⟨Y1, hY1, bY1, zY1, kY1⟩ : ∃ Y, Y = w9.alloc (.cells #[.int .i64 a.kind, .int .i64 a.index, .int .i64 a.type.kind, .slice B3 a.type.args.length d3, .slice A3' a.args.length c3'] 34) ∧ Below w9.heap.size w9 Y ∧ Y.heap.size = w9.heap.size + 1 ∧ Blk Y w9.heap.size 34 #[.int .i64 a.kind, .int .i64 a.index, .int .i64 a.type.kind, .slice B3 a.type.args.length d3, .slice A3' a.args.length c3'] := ⟨_, rfl, (Below.refl _ _).alloc (Nat.le_refl _) _, by simp, Blk.new _ _ _⟩
    have HY1 := Lib.hid hY1
    have BY1 := Lib.hid (B9.out.trans (bY1.mono B9.out.size))
    have KA := Lib.hid kY1
    have TA1 := Lib.hid (show IsTm (· < w9.heap.size) Y1 a _ from IsTm.keep (fun _ h => h) (fun p hp => bY1.cell hp) _ TA.out)
    have ZY1 := Lib.hid zY1
    clear h9 hva hxe b9 hY1 bY1 zY1 kY1 p0 p1 p2 p3 p4
    go_upto_region 10 with fail
    rw [← HY1.out]
    obtain ⟨q0, q1, q2, q3, q4, _, _, _, _, _⟩ := (KY.out.below BY1.out KY.out.lt).facts5
    go_wp2_with fail
    refine (HNY.out Y1 BY1.out).mono ?_
    rintro en w10 ⟨b10, h10⟩
    obtain ⟨ym, ye, vb, b, hvb, hen, hye⟩ : ∃ (ym ye : Int) (vb : Value) (b : Tm), IsTm (· < w10.heap.size) w10 b vb ∧ en = .returned (.tuple #[vb, .int .i64 ym, .int .i64 ye]) ∧ ((∃ m : Nat, ym = m ∧ ye = 0 ∧ Ends 0 (fun _ => false) 300 m y b 0) ∨ ye = 4 ∨ ye = 5) := by
      rcases h10 with ⟨u, m, v', rfl, ht, hE⟩ | ⟨u, m, er, her, rfl, hE⟩
      · exact ⟨m, 0, v', u, ht.keep (fun b h => h.2) (fun _ _ => rfl), rfl, .inl ⟨m, rfl, rfl, hE⟩⟩
      · exact ⟨0, er, _, .mk 0 0 .zero [], isTm_iff.2 ⟨rfl, rfl, IsTy.leaf _ _ _, Rep.Sl.nil _ _⟩, rfl, .inr her⟩
    subst hen
    obtain ⟨B4, d4, A4, c4, rfl, _⟩ := hvb.form
    have TB := Lib.hid hvb
    have HYE := Lib.hid hye
    obtain ⟨Y2, hY2, bY2, zY2, kY2⟩ : ∃ Y, Y = w10.alloc (.cells #[.int .i64 b.kind, .int .i64 b.index, .int .i64 b.type.kind, .slice B4 b.type.args.length d4, .slice A4 b.args.length c4] 34) ∧ Below w10.heap.size w10 Y ∧ Y.heap.size = w10.heap.size + 1 ∧ Blk Y w10.heap.size 34 #[.int .i64 b.kind, .int .i64 b.index, .int .i64 b.type.kind, .slice B4 b.type.args.length d4, .slice A4 b.args.length c4] := ⟨_, rfl, (Below.refl _ _).alloc (Nat.le_refl _) _, by simp, Blk.new _ _ _⟩
    have HY2 := Lib.hid hY2
    have b1Y := b10.trans (bY2.mono b10.size)
    have BY2 := Lib.hid (BY1.out.trans (b1Y.mono BY1.out.size))
    have KA2 := Lib.hid (KA.out.below b1Y KA.out.lt)
    have KB := Lib.hid kY2
    have TA2 := Lib.hid (show IsTm (· < Y2.heap.size) Y2 a _ from IsTm.keep (fun b h => by have h' : b < w9.heap.size := h; have := b1Y.size; have := ZY1.out; omega) (fun p hp => b1Y.cell (by have h' : p.block < w9.heap.size := hp; have := ZY1.out; omega)) _ TA1.out)
    have TB2 := Lib.hid (show IsTm (· < Y2.heap.size) Y2 b _ from IsTm.keep (fun b h => Nat.lt_of_lt_of_le h bY2.size) (fun p hp => bY2.cell hp) _ TB.out)
    have HBY := Lib.hid (HB8.out.trans (BY2.out.mono HB8.out.size))
    clear h10 hvb hye b10 hY2 bY2 zY2 kY2 q0 q1 q2 q3 q4 b1Y
    go_upto_region 11 with fail
    rw [← HY2.out]
    rcases HXE.out with ⟨m, hm, rfl, hEx⟩ | rfl | rfl
    · rcases HYE.out with ⟨n, hn, rfl, hEy⟩ | rfl | rfl
      · subst hm
        subst hn
        have szx := MX.out.1.size
        have szy := MY.out.1.size
        have h87 := bdN_two Tx
        have h87' := bdN_two Ty'
        have lenG := HFM.out.2.2.1
        have mpl := made_pair (s := Tx) (t := tyFun CS Ty') (by have := MX.out.2; have := MY.out.2; have := HFM.out.2.2.2.2; simp only [tyFun, Ty.nodes, nodesAll]; omega) MX.out.1 (made_lam HFM.out.2.2.2.1 HFM.out.2.2.2.2 (by have := MY.out.2; omega) MY.out.1)
        have HPL := Lib.hid (And.intro (show ((.mk 10 0 .zero [x, (.mk 2 0 CS [y])]) : Tm).bulk ≤ 390000 by have := mpl.size; have := mpl.thin; omega) (And.intro (made_err6 mpl (by omega)) (made_low6 mpl (by omega) (by omega))))
        have HEN := Lib.hid (And.intro hEx hEy)
        have HBK := Lib.hid (And.intro (show CS.nodes ≤ 400000 by have := HFM.out.2.2.2.2; omega) (And.intro (show bulkAll [y] ≤ 400000 by have := MY.out.1.thin; simp only [bulkAll]; omega) (And.intro (show bulkAll [b] ≤ 400000 by have h1 := hEy.1.ok MY.out.1.ok; have h2 := hEy.1.size (by omega); have := ok_bulk h1; simp only [bulkAll]; omega) (And.intro (show bulkAll [x, (.mk 2 0 CS [y])] ≤ 400000 by have h1 := MX.out.1.thin; have h2 := MY.out.1.thin; have := HFM.out.2.2.2.2; simp only [bulkAll, Tm.bulk]; omega) trivial))))
        have HMN := Lib.hid (And.intro hEx.2.1 hEy.2.1)
        have HTY := Lib.hid (show Tab Y2.drew from HTab.out.after HBY.out.drew)
        have K3 := Lib.hid (And.intro (KX.out.below BY2.out KX.out.lt).drew (And.intro (KY.out.below BY2.out KY.out.lt).drew (KS8.out.below BY2.out KS8.out.lt).drew))
        have TT3 := Lib.hid (And.intro (show IsTm (Good (fun _ => False) Y2.drew) Y2.drew x _ from IsTm.keep (w' := Y2.drew) (fun b h => ⟨id, Nat.lt_of_lt_of_le h BY2.out.size⟩) (fun p hp => BY2.out.cell hp) _ TX.out) (And.intro (show IsTm (Good (fun _ => False) Y2.drew) Y2.drew y _ from IsTm.keep (w' := Y2.drew) (fun b h => ⟨id, Nat.lt_of_lt_of_le h BY2.out.size⟩) (fun p hp => BY2.out.cell hp) _ TY.out) (show IsTy (Good (fun _ => False) Y2.drew) Y2.drew CS _ from IsTy.keep (w' := Y2.drew) (fun b h => ⟨id, Nat.lt_of_lt_of_le h BY2.out.size⟩) (fun p hp => BY2.out.cell hp) _ TS8.out)))
        clear szx szy h87 h87' lenG mpl hEx hEy
        go_upto_region 13 with fail
        refine wp_region_any (by kernel_rfl) ?_
        change wpAny _ _ _ _ _ _ _ (World.drew _)
        refine wpAny_facts (by kernel_rfl) (by kernel_rfl) g13 p13A (by kernel_rfl) p13C (by kernel_rfl) (p13F x y a b CS (.agg #[.int .i64 x.kind, .int .i64 x.index, .int .i64 x.type.kind, .slice B1 x.type.args.length d1, .slice A1 x.args.length c1]) (.agg #[.int .i64 y.kind, .int .i64 y.index, .int .i64 y.type.kind, .slice B2 y.type.args.length d2, .slice A2 y.args.length c2]) (.agg #[.int .i64 CS.kind, .slice A7 CS.args.length c7]) m n) (fun _ => False) (fun _ => False) (fun _ => True) _ _ (fun _ h => h.elim) (fun _ h => h.elim) trivial ⟨?_, ?_, ?_, ?_, ?_, ?_, ?_, ?_, ?_, ?_, ?_, ?_, ?_, ?_, ?_, ?_, trivial⟩ ?_
        · intro V G L a1 w1 hp K hK
          refine step_run rfl (run_load5 rfl (hp.slot0 6 _ rfl rfl) (hp.blk0 K3.out.1 id)) ?_
          exact hK _ g13 _ (Post.still rfl trivial hp.lt fun L' _ => rfl)
        · intro V G L a1 w1 hp K hK
          refine step_run rfl (run_load2 rfl (hp.slot0 5 _ rfl rfl) (hp.blk0 K3.out.2.2 id)) ?_
          exact hK _ g13 _ (Post.still rfl trivial hp.lt fun L' _ => rfl)
        · intro V G L a1 w1 hp K hK
          refine step_run rfl (run_load5 rfl (hp.slot0 7 _ rfl rfl) (hp.blk0 K3.out.2.1 id)) ?_
          exact hK _ g13 _ (Post.still rfl trivial hp.lt fun L' _ => rfl)
        · intro V G L a1 w1 hp K hK
          have f2 : V 2 = .agg #[.int .i64 y.kind, .int .i64 y.index, .int .i64 y.type.kind, .slice B2 y.type.args.length d2, .slice A2 y.args.length c2] := hp.fact 2 rfl
          have e2 := hp.slot 2 85 rfl rfl rfl
          rw [f2] at e2
          refine step_run rfl (run_build1 rfl e2) ?_
          exact hK _ g13 _ (Post.of rfl (Turn.alloc _ _) trivial hp.lt fun L' hg hn => ⟨built_pub (R := TmR) (l := [y]) (xs := [_, _, _, _, _]) (Rep.Ch.one (R := TmR) (vs := [_, _, _, _, _]) (hp.tm0 TT3.out.2.1)) (fun b h => ⟨(hg b h).1, by have := h.2; simp; omega⟩) hn, trivial⟩)
        · intro V G L a1 w1 hp K hK
          have f1 : V 1 = .agg #[.int .i64 CS.kind, .slice A7 CS.args.length c7] := hp.fact 1 rfl
          have e1 := hp.slot 1 84 rfl rfl rfl
          rw [f1] at e1
          have f3 : TmR.Sl (Good L w1) w1 [y] (V 3) ∧ True := hp.fact 3 rfl
          have e3 := hp.slot 3 86 rfl rfl rfl
          have ek : a1.eval (.const (.int .i64 2)) = .int .i64 2 := rfl
          refine step_call rfl _ _ _ rfl _ (by simp only [List.map_toArray, List.map_cons, List.map_nil, ek, e1, e3]) (enters_of Tryd.func14 (by kernel_rfl) rfl) (t_any 2 CS [y] _ _ w1 HBK.out.1 HBK.out.2.1 (IsTy.keep (fun b h => h.2) (fun _ _ => rfl) _ (hp.ty0 TT3.out.2.2)) (f3.1.keep (fun b h => h.2) (fun _ _ => rfl))) ?_
          rintro e w' ⟨v, rfl, ht, hb⟩
          exact ⟨_, rfl, hK _ g13 _ (Post.of rfl (Turn.call hb) trivial hp.lt fun L' _ hn => ⟨IsTm.keep (fun b h => hn b h.1 h.2) (fun _ _ => rfl) _ ht, trivial⟩)⟩
        · intro V G L a1 w1 hp K hK
          have f0 : V 0 = .agg #[.int .i64 x.kind, .int .i64 x.index, .int .i64 x.type.kind, .slice B1 x.type.args.length d1, .slice A1 x.args.length c1] := hp.fact 0 rfl
          have e0 := hp.slot 0 83 rfl rfl rfl
          rw [f0] at e0
          have f4 : IsTm (Good L w1) w1 (.mk 2 0 CS [y]) (V 4) ∧ True := hp.fact 4 rfl
          have e4 := hp.slot 4 87 rfl rfl rfl
          obtain ⟨B9, d9, A9, c9, h9, _⟩ := f4.1.form
          rw [h9] at e4 f4
          refine step_run rfl (run_build2 rfl e0 e4) ?_
          exact hK _ g13 _ (Post.of rfl (Turn.alloc _ _) trivial hp.lt fun L' hg hn => ⟨built_pub (R := TmR) (l := [x, (.mk 2 0 CS [y])]) (xs := [_, _, _, _, _, _, _, _, _, _]) (Rep.Ch.append (R := TmR) (l := [x]) (m := [(.mk 2 0 CS [y])]) (Rep.Ch.one (R := TmR) (vs := [_, _, _, _, _]) (hp.tm0 TT3.out.1)) (Rep.Ch.one (R := TmR) (vs := [_, _, _, _, _]) f4.1)) (fun b h => ⟨(hg b h).1, by have := h.2; simp; omega⟩) hn, trivial⟩)
        · intro V G L a1 w1 hp K hK
          have f5 : TmR.Sl (Good L w1) w1 [x, (.mk 2 0 CS [y])] (V 5) ∧ True := hp.fact 5 rfl
          have e5 := hp.slot 5 88 rfl rfl rfl
          have ek : a1.eval (.const (.int .i64 10)) = .int .i64 10 := rfl
          refine step_call rfl _ _ _ rfl _ (by simp only [List.map_toArray, List.map_cons, List.map_nil, ek, e5]) (enters_of Tryd.func13 (by kernel_rfl) rfl) (n_any 10 [x, (.mk 2 0 CS [y])] _ w1 HBK.out.2.2.2.1 (f5.1.keep (fun b h => h.2) (fun _ _ => rfl))) ?_
          rintro e w' ⟨v, rfl, ht, hb⟩
          exact ⟨_, rfl, hK _ g13 _ (Post.of rfl (Turn.call hb) trivial hp.lt fun L' _ hn => ⟨IsTm.keep (fun b h => hn b h.1 h.2) (fun _ _ => rfl) _ ht, trivial⟩)⟩
        · intro V G L a1 w1 hp K hK
          have f6 : IsTm (Good L w1) w1 (.mk 10 0 .zero [x, (.mk 2 0 CS [y])]) (V 6) ∧ True := hp.fact 6 rfl
          have e6 := hp.slot 6 89 rfl rfl rfl
          have ek : a1.eval (.const (.int .i64 700)) = .int .i64 (700 : Nat) := rfl
          refine step_call rfl _ _ _ rfl _ (by simp only [List.map_toArray, List.map_cons, List.map_nil, ek, e6]) (enters_of Tryd.func12 (by kernel_rfl) rfl) (normal_any (.mk 10 0 .zero [x, (.mk 2 0 CS [y])]) _ (Good L w1) 700 w1 HPL.out.1 HPL.out.2.1 HPL.out.2.2 (by omega) (HTY.out.after ⟨hp.grown.os, hp.grown.tape, hp.grown.output, hp.grown.size, fun k hk => hp.grown.block k hk id⟩) (fun b h => h.2) f6.1) ?_
          rintro e w' ⟨hb, hr⟩
          rcases hr with ⟨u, k, v, rfl, ht, hE⟩ | ⟨u, k, er, her, rfl, hE⟩
          · rcases parts_ends HEN.out.1 HEN.out.2 hE with h | ⟨_, hk, hu⟩
            · cases h
            · subst hk; subst hu
              have hok := errT_zero.1 HPL.out.2.1
              have hbk := ok_bulk (hE.1.ok hok.1)
              have hsz := hE.1.size (by have := hok.2; omega)
              exact ⟨_, rfl, hK _ (v, ((m + n : Nat) : Int), 0) _ (Post.of rfl (Turn.call hb) trivial hp.lt fun L' hg hn => ⟨rfl, .inr ⟨rfl, rfl, by omega, IsTm.keep (fun b h => h.1.elim (hg b) (fun h' => hn b h' h.2)) (fun _ _ => rfl) _ ht⟩⟩)⟩
          · rcases parts_ends HEN.out.1 HEN.out.2 hE with h | ⟨h, _⟩
            · subst h; exact ⟨_, rfl, hK _ (.agg #[.int .i64 0, .int .i64 0, .int .i64 0, .slice none 0 0, .slice none 0 0], 0, 4) _ (Post.of rfl (Turn.call hb) trivial hp.lt fun L' hg hn => ⟨rfl, .inl ⟨rfl, isTm_iff.2 ⟨rfl, rfl, IsTy.leaf _ _ _, Rep.Sl.nil _ _⟩⟩⟩)⟩
            · subst h; rcases her with h | h <;> cases h
        · intro V G L a1 w1 hp K hK
          have f7 := hp.fact 7 rfl
          have f7' : V 7 = .tuple #[(G 7).1, .int .i64 (G 7).2.1, .int .i64 (G 7).2.2] := f7.1
          have e7 := hp.slot 7 90 rfl rfl rfl
          rw [f7'] at e7
          refine step_run rfl (run_move rfl e7) ?_
          exact hK _ g13 _ (Post.still rfl trivial hp.lt fun L' _ => rfl)
        · intro V G L a1 w1 hp K hK
          have f8 : V 8 = .tuple #[(G 7).1, .int .i64 (G 7).2.1, .int .i64 (G 7).2.2] := hp.fact 8 rfl
          have e8 := hp.slot 8 82 rfl rfl rfl
          rw [f8] at e8
          refine step_run rfl (run_extract (v := (G 7).1) rfl e8 rfl) ?_
          exact hK _ g13 _ (Post.still rfl trivial hp.lt fun L' _ => rfl)
        · intro V G L a1 w1 hp K hK
          have f8 : V 8 = .tuple #[(G 7).1, .int .i64 (G 7).2.1, .int .i64 (G 7).2.2] := hp.fact 8 rfl
          have e8 := hp.slot 8 82 rfl rfl rfl
          rw [f8] at e8
          refine step_run rfl (run_extract (v := .int .i64 (G 7).2.1) rfl e8 rfl) ?_
          exact hK _ g13 _ (Post.still rfl trivial hp.lt fun L' _ => rfl)
        · intro V G L a1 w1 hp K hK
          have f8 : V 8 = .tuple #[(G 7).1, .int .i64 (G 7).2.1, .int .i64 (G 7).2.2] := hp.fact 8 rfl
          have e8 := hp.slot 8 82 rfl rfl rfl
          rw [f8] at e8
          refine step_run rfl (run_extract (v := .int .i64 (G 7).2.2) rfl e8 rfl) ?_
          exact hK _ g13 _ (Post.still rfl trivial hp.lt fun L' _ => rfl)
        · intro V G L a1 w1 hp K hK
          exact step_run rfl (run_alloc5 rfl) (hK _ g13 _ (Post.made rfl trivial))
        · intro V G L a1 w1 hp K hK
          have f9 : V 9 = (G 7).1 := hp.fact 9 rfl
          have e9 := hp.slot 9 91 rfl rfl rfl
          have f7 : _ ∧ (((G 7).2.2 = 4 ∧ IsTm (Good L w1) w1 (.mk 0 0 .zero []) (G 7).1) ∨ ((G 7).2.2 = 0 ∧ (G 7).2.1 = ((m + n : Nat) : Int) ∧ ((.mk 10 0 .zero [a, (.mk 2 0 CS [b])]) : Tm).bulk ≤ 390000 ∧ IsTm (Good L w1) w1 (.mk 10 0 .zero [a, (.mk 2 0 CS [b])]) (G 7).1)) := hp.fact 7 rfl
          obtain ⟨q, hv, hk⟩ : ∃ b, V 12 = .pointer (some ⟨b, 0, none⟩) ∧ Blk w1 b _ _ := hp.fact 12 rfl
          have e12 := hp.slot 12 14 rfl rfl rfl
          obtain ⟨x0, x1, x2, x3, x4, h9, o0, o1, o2, o3, o4⟩ : ∃ x0 x1 x2 x3 x4, (G 7).1 = .agg #[x0, x1, x2, x3, x4] ∧ x0.oneCell' = true ∧ x1.oneCell' = true ∧ x2.oneCell' = true ∧ x3.oneCell' = true ∧ x4.oneCell' = true := by
            rcases f7.2 with ⟨_, ht⟩ | ⟨_, _, _, ht⟩
            all_goals
              obtain ⟨B9, d9, A9, c9, h9, _⟩ := ht.form
              exact ⟨_, _, _, _, _, h9, rfl, rfl, rfl, rfl, rfl⟩
          rw [hv] at e12
          rw [f9, h9] at e9
          refine step_skip' rfl (run_store5 rfl e12 e9 o0 o1 o2 o3 o4 hk) (hK _ g13 _ (Post.filled (j := 12) rfl rfl (by show ptrBlk (V 12) = _; rw [hv]; rfl) ?_ hk trivial))
          show RFact.boxv _ (G 7).1 (V 12) = _
          rw [hv, h9]
        · intro V G L a1 w1 hp K hK
          have f10 : V 10 = .int .i64 (G 7).2.1 := hp.fact 10 rfl
          have e10 := hp.slot 10 92 rfl rfl rfl
          rw [f10] at e10
          refine step_run rfl (run_assign rfl e10) ?_
          exact hK _ g13 _ (Post.still rfl trivial hp.lt fun L' _ => rfl)
        · intro V G L a1 w1 hp K hK
          have f11 : V 11 = .int .i64 (G 7).2.2 := hp.fact 11 rfl
          have e11 := hp.slot 11 93 rfl rfl rfl
          rw [f11] at e11
          refine step_run rfl (run_assign rfl e11) ?_
          exact hK _ g13 _ (Post.still rfl trivial hp.lt fun L' _ => rfl)
        · intro V G w11 L hg _ hf hL hd
          have f7 : _ ∧ (((G 7).2.2 = 4 ∧ IsTm (Good L w11) w11 (.mk 0 0 .zero []) (G 7).1) ∨ ((G 7).2.2 = 0 ∧ (G 7).2.1 = ((m + n : Nat) : Int) ∧ ((.mk 10 0 .zero [a, (.mk 2 0 CS [b])]) : Tm).bulk ≤ 390000 ∧ IsTm (Good L w11) w11 (.mk 10 0 .zero [a, (.mk 2 0 CS [b])]) (G 7).1)) := (hf 7 (by decide) rfl).1
          obtain ⟨p3, c9, hc, hv, hk⟩ : ∃ b c, (G 7).1 = .agg c ∧ V 12 = .pointer (some ⟨b, 0, none⟩) ∧ Blk w11 b _ c := (hf 13 (by decide) rfl).1
          have f14 : V 14 = .int .i64 (G 7).2.1 := (hf 14 (by decide) rfl).1
          have f15 : V 15 = .int .i64 (G 7).2.2 := (hf 15 (by decide) rfl).1
          have B11 := Lib.hid (show Below Y2.heap.size Y2 w11 from ⟨hg.os, hg.tape, hg.output, hg.size, fun k hk => hg.block k hk id⟩)
          have HB11 := Lib.hid (HBY.out.trans (B11.out.mono HBY.out.size))
          simp only [putFrom, dstOf, Act.put, List.size_toArray, List.length_cons, List.length_nil, Nat.zero_add, Nat.reduceAdd, List.getElem?_toArray, List.getElem?_cons_zero, List.getElem?_cons_succ, List.setIfInBounds_toArray, List.set_cons_zero, List.set_cons_succ, hv, f14, f15]
          have hv0 : ∀ i, ∃ v, v = V i := fun i => ⟨_, rfl⟩
          obtain ⟨z0, hq⟩ := hv0 0; rw [← hq]; clear hq
          obtain ⟨z1, hq⟩ := hv0 1; rw [← hq]; clear hq
          obtain ⟨z2, hq⟩ := hv0 2; rw [← hq]; clear hq
          obtain ⟨z3, hq⟩ := hv0 3; rw [← hq]; clear hq
          obtain ⟨z4, hq⟩ := hv0 4; rw [← hq]; clear hq
          obtain ⟨z5, hq⟩ := hv0 5; rw [← hq]; clear hq
          obtain ⟨z6, hq⟩ := hv0 6; rw [← hq]; clear hq
          obtain ⟨z7, hq⟩ := hv0 7; rw [← hq]; clear hq
          obtain ⟨z8, hq⟩ := hv0 8; rw [← hq]; clear hq
          obtain ⟨z9, hq⟩ := hv0 9; rw [← hq]; clear hq
          obtain ⟨z10, hq⟩ := hv0 10; rw [← hq]; clear hq
          obtain ⟨z11, hq⟩ := hv0 11; rw [← hq]; clear hq
          clear hv0
          rcases f7.2 with ⟨hr4, _⟩ | ⟨hr0, hrk, hrb, hrt⟩
          · rw [hr4]
            clear hf hL hd f7 f14 f15 hk hv hc hg hr4
            go_wp2_with fail
            go_ret
            exact ⟨rfl, HB11.out⟩
          · rw [hr0, hrk]
            obtain ⟨R, hR⟩ : ∃ R : Tm, R = (.mk 10 0 .zero [a, (.mk 2 0 CS [b])]) := ⟨_, rfl⟩
            rw [← hR] at hrt hrb
            obtain ⟨B5, d5, A5, c5, h5, _⟩ := hrt.form
            rw [h5] at hc hrt
            cases hc
            have HR := Lib.hid hR
            have HRB := Lib.hid (show ((.mk 10 0 .zero [a, (.mk 2 0 CS [b])]) : Tm).bulk ≤ 390000 from hR ▸ hrb)
            have HAB := Lib.hid (show bulkAll [a, (.mk 2 0 CS [b])] ≤ 400000 by have h1 := HRB.out; simp only [Tm.bulk, bulkAll, Ty.zero, Ty.nodes, nodesAll] at h1; simp only [bulkAll, Tm.bulk]; omega)
            have K4 := Lib.hid (And.intro hk.drew (And.intro (KA2.out.below B11.out KA2.out.lt).drew (And.intro ((KS8.out.below BY2.out KS8.out.lt).below B11.out (KS8.out.below BY2.out KS8.out.lt).lt).drew (KB.out.below B11.out KB.out.lt).drew)))
            have TR4 := Lib.hid (show IsTm (Good (fun _ => False) w11.drew) w11.drew (.mk 10 0 .zero [a, (.mk 2 0 CS [b])]) (.agg #[.int .i64 R.kind, .int .i64 R.index, .int .i64 R.type.kind, .slice B5 R.type.args.length d5, .slice A5 R.args.length c5]) from hR ▸ IsTm.keep (w := w11) (w' := w11.drew) (fun b h => ⟨id, h.2⟩) (fun _ _ => rfl) _ hrt)
            have TT4 := Lib.hid (And.intro (show IsTm (Good (fun _ => False) w11.drew) w11.drew a _ from IsTm.keep (w' := w11.drew) (fun b h => ⟨id, Nat.lt_of_lt_of_le h B11.out.size⟩) (fun p hp => B11.out.cell hp) _ TA2.out) (And.intro (show IsTm (Good (fun _ => False) w11.drew) w11.drew b _ from IsTm.keep (w' := w11.drew) (fun b h => ⟨id, Nat.lt_of_lt_of_le h B11.out.size⟩) (fun p hp => B11.out.cell hp) _ TB2.out) (show IsTy (Good (fun _ => False) w11.drew) w11.drew CS _ from IsTy.keep (S := Good (fun _ => False) Y2.drew) (w := Y2.drew) (w' := w11.drew) (fun b h => ⟨id, Nat.lt_of_lt_of_le h.2 B11.out.size⟩) (fun p hp => B11.out.cell (p := p) hp.2) _ TT3.out.2.2)))
            clear hf hL hd f7 f14 f15 hk hv hg hr0 hrk hrb hrt h5 hR
            go_upto_region 16 with fail
            refine wp_region_any (by kernel_rfl) ?_
            change wpAny _ _ _ _ _ _ _ (World.drew _)
            refine wpAny_facts (by kernel_rfl) (by kernel_rfl) () p16A (by kernel_rfl) (fun _ => none) (by kernel_rfl) (p16F a b CS (.agg #[.int .i64 R.kind, .int .i64 R.index, .int .i64 R.type.kind, .slice B5 R.type.args.length d5, .slice A5 R.args.length c5]) (.agg #[.int .i64 a.kind, .int .i64 a.index, .int .i64 a.type.kind, .slice B3 a.type.args.length d3, .slice A3' a.args.length c3']) (.agg #[.int .i64 CS.kind, .slice A7 CS.args.length c7]) (.agg #[.int .i64 b.kind, .int .i64 b.index, .int .i64 b.type.kind, .slice B4 b.type.args.length d4, .slice A4 b.args.length c4]) m n) (fun _ => False) (fun _ => False) (fun _ => True) _ _ (fun _ h => h.elim) (fun _ h => h.elim) trivial ⟨?_, ?_, ?_, ?_, ?_, ?_, ?_, ?_, ?_, ?_, ?_, ?_, ?_, ?_, ?_, ?_, ?_, trivial⟩ ?_
            · intro V G L a1 w1 hp K hK
              refine step_run rfl (run_move rfl (hp.slot0 15 _ rfl rfl)) ?_
              exact hK _ () _ (Post.still rfl trivial hp.lt fun L' _ => rfl)
            · intro V G L a1 w1 hp K hK
              refine step_run rfl (run_move rfl (hp.slot0 9 _ rfl rfl)) ?_
              exact hK _ () _ (Post.still rfl trivial hp.lt fun L' _ => rfl)
            · intro V G L a1 w1 hp K hK
              refine step_run rfl (run_move rfl (hp.slot0 12 _ rfl rfl)) ?_
              exact hK _ () _ (Post.still rfl trivial hp.lt fun L' _ => rfl)
            · intro V G L a1 w1 hp K hK
              have f1 : V 1 = .int .i64 (m : Int) := hp.fact 1 rfl
              have e1 := hp.slot 1 99 rfl rfl rfl
              rw [f1] at e1
              have f2 : V 2 = .int .i64 (n : Int) := hp.fact 2 rfl
              have e2 := hp.slot 2 100 rfl rfl rfl
              rw [f2] at e2
              refine step_run rfl (run_addInt rfl e1 e2 (by have := HMN.out.1; have := HMN.out.2; omega) (by have := HMN.out.1; have := HMN.out.2; omega)) ?_
              exact hK _ () _ (Post.still rfl trivial hp.lt fun L' _ => rfl)
            · intro V G L a1 w1 hp K hK
              have f0 : V 0 = .int .i64 ((m + n : Nat) : Int) := hp.fact 0 rfl
              have e0 := hp.slot 0 98 rfl rfl rfl
              rw [f0] at e0
              have f3 : V 3 = .int .i64 ((m : Int) + (n : Int)) := hp.fact 3 rfl
              have e3 := hp.slot 3 101 rfl rfl rfl
              rw [f3] at e3
              have eq : (((m + n : Nat) : Int) == (m : Int) + (n : Int)) = true := by simp
              refine step_run (v := .bool true) rfl (by rw [run_eqInt rfl e0 e3, eq]) ?_
              exact hK _ () _ (Post.still rfl trivial hp.lt fun L' _ => rfl)
            · intro V G L a1 w1 hp K hK
              have f4 : V 4 = .bool true := hp.fact 4 rfl
              have e4 := hp.slot 4 102 rfl rfl rfl
              rw [f4] at e4
              refine step_run rfl (run_move rfl e4) ?_
              exact hK _ () _ (Post.still rfl trivial hp.lt fun L' _ => rfl)
            · intro V G L a1 w1 hp K hK
              have f5 : V 5 = .bool true := hp.fact 5 rfl
              refine step_runW (hp.wanted rfl rfl rfl rfl f5) (run_load5 rfl (hp.slot0 14 _ rfl rfl) (hp.blk0 K4.out.1 id)) ?_
              exact hK _ () _ (Post.still rfl trivial hp.lt fun L' _ => rfl)
            · intro V G L a1 w1 hp K hK
              have f5 : V 5 = .bool true := hp.fact 5 rfl
              refine step_runW (hp.wanted rfl rfl rfl rfl f5) (run_load5 rfl (hp.slot0 8 _ rfl rfl) (hp.blk0 K4.out.2.1 id)) ?_
              exact hK _ () _ (Post.still rfl trivial hp.lt fun L' _ => rfl)
            · intro V G L a1 w1 hp K hK
              have f5 : V 5 = .bool true := hp.fact 5 rfl
              refine step_runW (hp.wanted rfl rfl rfl rfl f5) (run_load2 rfl (hp.slot0 5 _ rfl rfl) (hp.blk0 K4.out.2.2.1 id)) ?_
              exact hK _ () _ (Post.still rfl trivial hp.lt fun L' _ => rfl)
            · intro V G L a1 w1 hp K hK
              have f5 : V 5 = .bool true := hp.fact 5 rfl
              refine step_runW (hp.wanted rfl rfl rfl rfl f5) (run_load5 rfl (hp.slot0 11 _ rfl rfl) (hp.blk0 K4.out.2.2.2 id)) ?_
              exact hK _ () _ (Post.still rfl trivial hp.lt fun L' _ => rfl)
            · intro V G L a1 w1 hp K hK
              have f5 : V 5 = .bool true := hp.fact 5 rfl
              have f9 : V 9 = .agg #[.int .i64 b.kind, .int .i64 b.index, .int .i64 b.type.kind, .slice B4 b.type.args.length d4, .slice A4 b.args.length c4] := hp.fact 9 rfl
              have e9 := hp.slot 9 107 rfl rfl rfl
              rw [f9] at e9
              refine step_runW (hp.wanted rfl rfl rfl rfl f5) (run_build1 rfl e9) ?_
              exact hK _ () _ (Post.of rfl (Turn.alloc _ _) trivial hp.lt fun L' hg hn => ⟨built_pub (R := TmR) (l := [b]) (xs := [_, _, _, _, _]) (Rep.Ch.one (R := TmR) (vs := [_, _, _, _, _]) (hp.tm0 TT4.out.2.1)) (fun b h => ⟨(hg b h).1, by have := h.2; simp; omega⟩) hn, trivial⟩)
            · intro V G L a1 w1 hp K hK
              have f5 : V 5 = .bool true := hp.fact 5 rfl
              have f8 : V 8 = .agg #[.int .i64 CS.kind, .slice A7 CS.args.length c7] := hp.fact 8 rfl
              have e8 := hp.slot 8 106 rfl rfl rfl
              rw [f8] at e8
              have f10 : TmR.Sl (Good L w1) w1 [b] (V 10) ∧ True := hp.fact 10 rfl
              have e10 := hp.slot 10 108 rfl rfl rfl
              have ek : a1.eval (.const (.int .i64 2)) = .int .i64 2 := rfl
              refine step_callW (hp.wanted rfl rfl rfl rfl f5) _ _ _ rfl _ (by simp only [List.map_toArray, List.map_cons, List.map_nil, ek, e8, e10]) (enters_of Tryd.func14 (by kernel_rfl) rfl) (t_any 2 CS [b] _ _ w1 HBK.out.1 HBK.out.2.2.1 (IsTy.keep (fun b h => h.2) (fun _ _ => rfl) _ (hp.ty0 TT4.out.2.2)) (f10.1.keep (fun b h => h.2) (fun _ _ => rfl))) ?_
              rintro e w' ⟨v, rfl, ht, hb⟩
              exact ⟨_, rfl, hK _ () _ (Post.of rfl (Turn.call hb) trivial hp.lt fun L' _ hn => ⟨IsTm.keep (fun b h => hn b h.1 h.2) (fun _ _ => rfl) _ ht, trivial⟩)⟩
            · intro V G L a1 w1 hp K hK
              have f5 : V 5 = .bool true := hp.fact 5 rfl
              have f7 : V 7 = .agg #[.int .i64 a.kind, .int .i64 a.index, .int .i64 a.type.kind, .slice B3 a.type.args.length d3, .slice A3' a.args.length c3'] := hp.fact 7 rfl
              have e7 := hp.slot 7 105 rfl rfl rfl
              rw [f7] at e7
              have f11 : IsTm (Good L w1) w1 (.mk 2 0 CS [b]) (V 11) ∧ True := hp.fact 11 rfl
              have e11 := hp.slot 11 109 rfl rfl rfl
              obtain ⟨B9, d9, A9, c9, h9, _⟩ := f11.1.form
              rw [h9] at e11 f11
              refine step_runW (hp.wanted rfl rfl rfl rfl f5) (run_build2 rfl e7 e11) ?_
              exact hK _ () _ (Post.of rfl (Turn.alloc _ _) trivial hp.lt fun L' hg hn => ⟨built_pub (R := TmR) (l := [a, (.mk 2 0 CS [b])]) (xs := [_, _, _, _, _, _, _, _, _, _]) (Rep.Ch.append (R := TmR) (l := [a]) (m := [(.mk 2 0 CS [b])]) (Rep.Ch.one (R := TmR) (vs := [_, _, _, _, _]) (hp.tm0 TT4.out.1)) (Rep.Ch.one (R := TmR) (vs := [_, _, _, _, _]) f11.1)) (fun b h => ⟨(hg b h).1, by have := h.2; simp; omega⟩) hn, trivial⟩)
            · intro V G L a1 w1 hp K hK
              have f5 : V 5 = .bool true := hp.fact 5 rfl
              have f12 : TmR.Sl (Good L w1) w1 [a, (.mk 2 0 CS [b])] (V 12) ∧ True := hp.fact 12 rfl
              have e12 := hp.slot 12 110 rfl rfl rfl
              have ek : a1.eval (.const (.int .i64 10)) = .int .i64 10 := rfl
              refine step_callW (hp.wanted rfl rfl rfl rfl f5) _ _ _ rfl _ (by simp only [List.map_toArray, List.map_cons, List.map_nil, ek, e12]) (enters_of Tryd.func13 (by kernel_rfl) rfl) (n_any 10 [a, (.mk 2 0 CS [b])] _ w1 HAB.out (f12.1.keep (fun b h => h.2) (fun _ _ => rfl))) ?_
              rintro e w' ⟨v, rfl, ht, hb⟩
              exact ⟨_, rfl, hK _ () _ (Post.of rfl (Turn.call hb) trivial hp.lt fun L' _ hn => ⟨IsTm.keep (fun b h => hn b h.1 h.2) (fun _ _ => rfl) _ ht, trivial⟩)⟩
            · intro V G L a1 w1 hp K hK
              have f5 : V 5 = .bool true := hp.fact 5 rfl
              have f6 : V 6 = .agg #[.int .i64 R.kind, .int .i64 R.index, .int .i64 R.type.kind, .slice B5 R.type.args.length d5, .slice A5 R.args.length c5] := hp.fact 6 rfl
              have e6 := hp.slot 6 104 rfl rfl rfl
              rw [f6] at e6
              have f13 : IsTm (Good L w1) w1 (.mk 10 0 .zero [a, (.mk 2 0 CS [b])]) (V 13) ∧ True := hp.fact 13 rfl
              have e13 := hp.slot 13 111 rfl rfl rfl
              refine step_callW (hp.wanted rfl rfl rfl rfl f5) _ _ _ rfl _ (by simp only [List.map_toArray, List.map_cons, List.map_nil, e6, e13]) (enters_of Tryd.func15 (by kernel_rfl) rfl) (sameT_refl 400000 (.mk 10 0 .zero [a, (.mk 2 0 CS [b])]) _ _ w1 (by have := HRB.out; omega) (Nat.le_refl _) (IsTm.keep (fun b h => h.2) (fun _ _ => rfl) _ (hp.tm0 TR4.out)) (IsTm.keep (fun b h => h.2) (fun _ _ => rfl) _ f13.1)) ?_
              rintro e w' ⟨rfl, hb⟩
              exact ⟨_, rfl, hK _ () _ (Post.of rfl (Turn.call hb) trivial hp.lt fun L' _ _ => rfl)⟩
            · intro V G L a1 w1 hp K hK
              have f5 : V 5 = .bool true := hp.fact 5 rfl
              have e5 := hp.slot 5 103 rfl rfl rfl
              rw [f5] at e5
              have f14 : V 14 = .bool true := hp.fact 14 rfl
              have e14 := hp.slot 14 112 rfl rfl rfl
              rw [f14] at e14
              refine step_run rfl (run_pick (v := .bool true) rfl e5 (by rw [if_pos rfl]; exact e14)) ?_
              exact hK _ () _ (Post.still rfl trivial hp.lt fun L' _ => rfl)
            · intro V G L a1 w1 hp K hK
              have f15 : V 15 = .bool true := hp.fact 15 rfl
              have e15 := hp.slot 15 113 rfl rfl rfl
              rw [f15] at e15
              refine step_run rfl (run_assign rfl e15) ?_
              exact hK _ () _ (Post.still rfl trivial hp.lt fun L' _ => rfl)
            · intro V G w12 L hg _ hf hL hd
              have f16 : V 16 = .bool true := (hf 16 (by decide) rfl).1
              have B12 := Lib.hid (show Below w11.heap.size w11 w12 from ⟨hg.os, hg.tape, hg.output, hg.size, fun k hk => hg.block k hk id⟩)
              simp only [putFrom, dstOf, Act.put, List.size_toArray, List.length_cons, List.length_nil, Nat.zero_add, Nat.reduceAdd, List.getElem?_toArray, List.getElem?_cons_zero, List.getElem?_cons_succ, List.setIfInBounds_toArray, List.set_cons_zero, List.set_cons_succ, f16]
              clear hf hL hd f16 hg
              go_wp2_with fail
              go_ret
              exact ⟨rfl, HB11.out.trans (B12.out.mono HB11.out.size)⟩
      · go_wp2_with fail
        go_ret
        exact ⟨rfl, HBY.out⟩
      · go_wp2_with fail
        go_ret
        exact ⟨rfl, HBY.out⟩
    · rcases HYE.out with ⟨n, hn, rfl, hEy⟩ | rfl | rfl
      all_goals
        go_wp2_with fail
        go_ret
        exact ⟨rfl, HBY.out⟩
    · rcases HYE.out with ⟨n, hn, rfl, hEy⟩ | rfl | rfl
      all_goals
        go_wp2_with fail
        go_ret
        exact ⟨rfl, HBY.out⟩
end Go.Proofs.YtifijgihcincfaaDoor
