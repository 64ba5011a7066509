/- The second form of Same on terms: a term and its copy. -/
import Derived.Test.YtnodebcbnfkioaaDoorRefSame
import Derived.Test.YtnodebcbnfkioaaDoorMakeT
import Derived.Deep.RegionHeld3
import Derived.Test.YtnodebcbnfkioaaDoorTypeTop
import Derived.Test.YtnodebcbnfkioaaDoorPackSubst
import Derived.Test.YtnodebcbnfkioaaDoorPackK
import Derived.Test.YtnodebcbnfkioaaDoorLawKit
import Derived.Test.YtnodebcbnfkioaaDoorFormedT
import Derived.ProofKit
import Derived.LaidMore
import Derived.OpenShut
import Derived.Stop.Joined
namespace Go.Proofs.YtnodebcbnfkioaaDoor
open Go.RowKit

set_option maxRecDepth 100000 in
set_option maxHeartbeats 4000000 in
theorem sameT_refl (n : Nat) : ∀ (t : Tm) (u v : Value) (w : World), t.bulk ≤ n → n ≤ 400000 → IsTm (· < w.heap.size) w t u → IsTm (· < w.heap.size) w t v →
    Calls Tryd.prog 20 #[u, v] w fun e w' => e = .returned (.bool true) ∧ Below w.heap.size w w' := by
  induction n with
  | zero => intro t; have := bulk_pos t; omega
  | succ n ih =>
    rintro ⟨k, i, T, l⟩ u v w hn hb hu hv
    obtain ⟨B, d, A, c, rfl, hT, hl⟩ := hu.mk_parts
    obtain ⟨B', d', A', c', rfl, hT', hl'⟩ := hv.mk_parts
    have hll := bulkAll_len l
    simp only [Tm.bulk] at hn
    have IH := Lib.hid ih
    have HL := Lib.hid (And.intro hl hl')
    obtain ⟨b1, z1, k1⟩ := new_blk (Below.refl w.heap.size w) (Nat.le_refl _) #[.int .i64 k, .int .i64 i, .int .i64 T.kind, .slice B T.args.length d, .slice A l.length c] 34
    obtain ⟨b2, z2, k2⟩ := new_blk b1 b1.size #[.int .i64 k, .int .i64 i, .int .i64 T.kind, .slice B' T.args.length d', .slice A' l.length c'] 34
    have k1 := k1.alloc (Obj.cells #[.int .i64 k, .int .i64 i, .int .i64 T.kind, .slice B' T.args.length d', .slice A' l.length c'] 34)
    rw [z1] at k2 z2
    obtain ⟨W, hW⟩ : ∃ W, W = (w.alloc (Obj.cells #[.int .i64 k, .int .i64 i, .int .i64 T.kind, .slice B T.args.length d, .slice A l.length c] 34)).alloc (Obj.cells #[.int .i64 k, .int .i64 i, .int .i64 T.kind, .slice B' T.args.length d', .slice A' l.length c'] 34) := ⟨_, rfl⟩
    rw [← hW] at b2 z2 k1 k2
    have HTY := Lib.hid (And.intro (hT.boxed' b2) (hT'.boxed' b2))
    have hTn : T.nodes ≤ 400000 := by omega
    have HKK := Lib.hid (And.intro k1 (And.intro k2 b2))
    obtain ⟨p0, p1, p2, p3, p4, _⟩ := k1.facts5
    obtain ⟨s0, s1, s2, s3, s4, _⟩ := k2.facts5
    clear hu hv hT hT' hl hl' ih b1 z1 k1 k2
    go_enter Tryd.func20, Tryd.ntmps20
    go_wp2_with fail
    rw [← hW]
    clear hW
    refine (refSame_any 400000 T T _ _ W hTn (Nat.le_refl _) HTY.out.1 HTY.out.2 hTn).mono ?_
    rintro e W1 ⟨rfl, hbW⟩
    rw [eqb_self]
    have HBW := Lib.hid hbW
    have HK2 := Lib.hid (And.intro (HKK.out.1.below hbW HKK.out.1.lt) (And.intro (HKK.out.2.1.below hbW HKK.out.2.1.lt) (HKK.out.2.2.trans (hbW.mono HKK.out.2.2.size))))
    obtain ⟨_, _, _, _, q4, _⟩ := HK2.out.1.facts5
    obtain ⟨_, _, _, _, r4, _⟩ := HK2.out.2.1.facts5
    clear hbW p0 p1 p2 p3 p4 s0 s1 s2 s3 s4
    go_wp2_with fail
    go_loopw [38] (fun ix wr => ∃ j : Nat, j ≤ l.length ∧ ix = .int .i64 j ∧ Below W1.heap.size W1 wr) (fun ix _ => l.length - (intOf ix).toNat)
    case atStart => exact ⟨0, by omega, rfl, Below.refl _ _⟩
    case round =>
      obtain ⟨j, hj, rfl, hbel⟩ := hrel
      have hws := hbel.size
      have hB2 : Below w.heap.size w wr := HK2.out.2.2.trans (hbel.mono HK2.out.2.2.size)
      by_cases hlt : j < l.length
      · have hl1 : TmR.Sl (· < w.heap.size) wr l (.slice A l.length c) := HL.out.1.keep (fun _ h => h) (fun p hp => hB2.cell hp)
        have hm1 : TmR.Sl (· < w.heap.size) wr l (.slice A' l.length c') := HL.out.2.keep (fun _ h => h) (fun p hp => hB2.cell hp)
        obtain ⟨a, rfl, ha, hat⟩ := hl1.get j hlt
        obtain ⟨a', rfl, ha', hat'⟩ := hm1.get j hlt
        obtain ⟨B1, d1, A1, c1, q0, q1, q2, q3, q4', hx⟩ := at_tm hat
        obtain ⟨B2, d2, A2, c2, r0, r1, r2, r3, r4', hy⟩ := at_tm hat'
        simp only [show TmR.n = 5 from rfl] at q0 q1 q2 q3 q4' r0 r1 r2 r3 r4'
        have hnj := bulkAll_get l j hlt
        have hab : (a.add (j * 5)).block < w.heap.size := by rw [add_block]; exact ha
        have hab' : (a'.add (j * 5)).block < w.heap.size := by rw [add_block]; exact ha'
        have hwz := hB2.size
        have k1 := HK2.out.1.below hbel HK2.out.1.lt
        have k2 := HK2.out.2.1.below hbel HK2.out.2.1.lt
        have HSK := Lib.hid fun (w1 : World) (h : Below wr.heap.size wr w1) => And.intro (k1.below h k1.lt).facts5.2.2.2.2.1 (And.intro (k2.below h k2.lt).facts5.2.2.2.2.1
          (And.intro ((h.cell (p := a.add (j * 5)) (by omega)).trans q0) (And.intro ((h.cell (p := ⟨(a.add (j * 5)).block, (a.add (j * 5)).off + 1, none⟩) (by show (a.add (j * 5)).block < _; omega)).trans q1)
            (And.intro ((h.cell (p := ⟨(a.add (j * 5)).block, (a.add (j * 5)).off + 2, none⟩) (by show (a.add (j * 5)).block < _; omega)).trans q2) (And.intro ((h.cell (p := ⟨(a.add (j * 5)).block, (a.add (j * 5)).off + 3, none⟩) (by show (a.add (j * 5)).block < _; omega)).trans q3)
              (And.intro ((h.cell (p := ⟨(a.add (j * 5)).block, (a.add (j * 5)).off + 4, none⟩) (by show (a.add (j * 5)).block < _; omega)).trans q4')
          (And.intro ((h.cell (p := a'.add (j * 5)) (by omega)).trans r0) (And.intro ((h.cell (p := ⟨(a'.add (j * 5)).block, (a'.add (j * 5)).off + 1, none⟩) (by show (a'.add (j * 5)).block < _; omega)).trans r1)
            (And.intro ((h.cell (p := ⟨(a'.add (j * 5)).block, (a'.add (j * 5)).off + 2, none⟩) (by show (a'.add (j * 5)).block < _; omega)).trans r2) (And.intro ((h.cell (p := ⟨(a'.add (j * 5)).block, (a'.add (j * 5)).off + 3, none⟩) (by show (a'.add (j * 5)).block < _; omega)).trans r3)
              ((h.cell (p := ⟨(a'.add (j * 5)).block, (a'.add (j * 5)).off + 4, none⟩) (by show (a'.add (j * 5)).block < _; omega)).trans r4')))))))))))
        have ARM := Lib.hid (show Calls Tryd.prog 20 #[.agg #[.int .i64 l[j].kind, .int .i64 l[j].index, .int .i64 l[j].type.kind, .slice B1 l[j].type.args.length d1, .slice A1 l[j].args.length c1],
            .agg #[.int .i64 l[j].kind, .int .i64 l[j].index, .int .i64 l[j].type.kind, .slice B2 l[j].type.args.length d2, .slice A2 l[j].args.length c2]] wr.drew fun e w' => e = .returned (.bool true) ∧ Below wr.heap.size wr w' by
          refine (IH.out l[j] _ _ wr.drew (by omega) (by omega) (hx.keep (fun b h => Nat.lt_of_lt_of_le h hwz) (fun p _ => World.cell?_drew _ p)) (hy.keep (fun b h => Nat.lt_of_lt_of_le h hwz) (fun p _ => World.cell?_drew _ p))).mono ?_
          rintro e w1 ⟨h1, h2⟩
          exact ⟨h1, ((Below.refl _ wr).drew).trans h2⟩)
        obtain ⟨m0, m1, _⟩ := HSK.out wr (Below.refl _ _)
        have HBL := Lib.hid hbel
        clear hl1 hm1 hat hat' hx hy k1 k2 q0 q1 q2 q3 q4' r0 r1 r2 r3 r4' hbel hB2
        go_wp2_with fail
        go_region_held3 (fun w' => w'.cell? ⟨w.heap.size, 4, none⟩ = some (.slice (some a) l.length c) ∧ w'.cell? ⟨w.heap.size + 1, 4, none⟩ = some (.slice (some a') l.length c') ∧
            w'.cell? (a.add (j * 5)) = some (.int .i64 l[j].kind) ∧ w'.cell? ⟨(a.add (j * 5)).block, (a.add (j * 5)).off + 1, none⟩ = some (.int .i64 l[j].index) ∧ w'.cell? ⟨(a.add (j * 5)).block, (a.add (j * 5)).off + 2, none⟩ = some (.int .i64 l[j].type.kind) ∧
            w'.cell? ⟨(a.add (j * 5)).block, (a.add (j * 5)).off + 3, none⟩ = some (.slice B1 l[j].type.args.length d1) ∧ w'.cell? ⟨(a.add (j * 5)).block, (a.add (j * 5)).off + 4, none⟩ = some (.slice A1 l[j].args.length c1) ∧
            w'.cell? (a'.add (j * 5)) = some (.int .i64 l[j].kind) ∧ w'.cell? ⟨(a'.add (j * 5)).block, (a'.add (j * 5)).off + 1, none⟩ = some (.int .i64 l[j].index) ∧ w'.cell? ⟨(a'.add (j * 5)).block, (a'.add (j * 5)).off + 2, none⟩ = some (.int .i64 l[j].type.kind) ∧
            w'.cell? ⟨(a'.add (j * 5)).block, (a'.add (j * 5)).off + 3, none⟩ = some (.slice B2 l[j].type.args.length d2) ∧ w'.cell? ⟨(a'.add (j * 5)).block, (a'.add (j * 5)).off + 4, none⟩ = some (.slice A2 l[j].args.length c2))
          (first | with_reducible exact HSK.out _ (Below.refl _ _).drew | with_reducible exact HSK.out _ HB1.out | go_keep)
          (first
            | (go_at_call 20
               (with_reducible refine ARM.out.mono ?_)
               rintro e w1 ⟨rfl, hb1⟩
               have HB1 := Lib.hid hb1
               clear hb1))
        go_wp2_with fail
        exact ⟨⟨j + 1, by omega, by go_num, HBL.out.trans (HB1.out.mono hws)⟩, by simp [intOf]; omega⟩
      · have hjl : j = l.length := by omega
        subst hjl
        clear hbel
        go_wp2_with fail
        go_ret
        exact ⟨rfl, hB2⟩
end Go.Proofs.YtnodebcbnfkioaaDoor
namespace Go.Proofs.YtnodebcbnfkioaaDoor
open Go.RowKit

def identT : Tm := .mk 2 0 tyNat [.mk 1 0 .zero []]
theorem ident_typ : identT.typeOf [] = .ok (tyFun tyNat tyNat) := by
  have h1 : ctxErr [] = 0 := rfl
  have h2 : identT.err = 0 := by decide
  unfold Tm.typeOf
  rw [if_pos h1, if_pos h2]
  rfl

theorem refSame_is {S T : Ty} {u v : Value} {w : World} (b : Bool) (hb : S.eqb T = b) (hS0 : S.nodes ≤ 400000) (hT0 : T.nodes ≤ 400000) (hS : IsTy (· < w.heap.size) w S u) (hT : IsTy (· < w.heap.size) w T v) :
    Calls Tryd.prog 22 #[u, v] w fun e w' => e = .returned (.bool b) ∧ Below w.heap.size w w' := by
  subst hb
  exact refSame_any 400000 S T u v w hS0 (Nat.le_refl _) hS hT hT0

end Go.Proofs.YtnodebcbnfkioaaDoor
namespace Go.Proofs.YtnodebcbnfkioaaDoor
open Go.RowKit

theorem sane_put1 : (Tm.mk 5 0 .zero [.mk 1 0 .zero []]).put 0 (.mk 4 0 .zero []) = .mk 5 0 .zero [.mk 4 0 .zero []] := by rfl
theorem sane_put2 : (Tm.mk 2 0 tyNat [.mk 1 1 .zero []]).put 0 (.mk 1 3 .zero []) = .mk 2 0 tyNat [.mk 1 4 .zero []] := by rfl

/-- subst.Put where what comes of it is small. -/
theorem putTop_is {t s U : Tm} {v u : Value} {w : World} (hU : t.put 0 s = U) (hsz : U.size ≤ 4096) (hb : t.bulk ≤ 390000) (hsb : s.bulk ≤ 390000) (he : t.err = 0) (hse : s.err = 0) (hlow : t.low 536870912 = true) (hslow : s.low 536870912 = true) (htab : Tab w) (hT : IsTm (· < w.heap.size) w t v) (hS : IsTm (· < w.heap.size) w s u) :
    Calls Tryd.prog 14 #[v, .int .i64 0, u] w fun e w' => ∃ v', e = .returned (.tuple #[v', .int .i64 0]) ∧ IsTm (· < w'.heap.size) w' U v' ∧ Below w.heap.size w w' := by
  subst hU
  refine (putTop_any t s v u 0 (· < w.heap.size) w hb hsb he hse hlow hslow (by omega) htab (fun _ h => h) hT hS).mono ?_
  rintro e w' h
  unfold PutR at h
  rw [if_pos hsz] at h
  obtain ⟨v', h1, h2, h3⟩ := h
  exact ⟨v', h1, h2.keep (fun b h => h.2) (fun _ _ => rfl), h3⟩

theorem sl_new_tm {w : World} {T : Tm} {B A : Option Addr} {d c : Nat} (h : IsTm (· < w.heap.size) w T (.agg #[.int .i64 T.kind, .int .i64 T.index, .int .i64 T.type.kind, .slice B T.type.args.length d, .slice A T.args.length c])) :
    TmR.Sl (· < (w.alloc (Obj.cells #[.int .i64 T.kind, .int .i64 T.index, .int .i64 T.type.kind, .slice B T.type.args.length d, .slice A T.args.length c] 34)).heap.size) (w.alloc (Obj.cells #[.int .i64 T.kind, .int .i64 T.index, .int .i64 T.type.kind, .slice B T.type.args.length d, .slice A T.args.length c] 34)) [T] (.slice (some ⟨w.heap.size, 0, none⟩) 1 1) :=
  Rep.Sl.of_blk (R := TmR) (Blk.new w 34 _) (tm_one (IsTm.keep (fun b h => by have h' : b < w.heap.size := h; simp; omega) (fun p hp => World.cell?_alloc_lt _ _ _ hp) _ h)) (fun _ h => h) (by simp) rfl
theorem sl_new_var {w : World} (i : Int) : TmR.Sl (· < (w.alloc (Obj.cells #[.int .i64 1, .int .i64 i, .int .i64 0, .slice none 0 0, .slice none 0 0] 34)).heap.size) (w.alloc (Obj.cells #[.int .i64 1, .int .i64 i, .int .i64 0, .slice none 0 0, .slice none 0 0] 34)) [.mk 1 i .zero []] (.slice (some ⟨w.heap.size, 0, none⟩) 1 1) :=
  Rep.Sl.of_blk (R := TmR) (Blk.new w 34 _) (tm_one (var_is _ _ i)) (fun _ h => h) (by simp) rfl

set_option maxRecDepth 100000 in
set_option maxHeartbeats 4000000 in
theorem saneS_any (w : World) (htab : Tab w) : Calls Tryd.prog 8 #[] w fun e w' => e = .returned (.bool true) ∧ Below w.heap.size w w' := by
  have HTab := Lib.hid htab
  clear htab
  go_enter Tryd.func8, Tryd.ntmps8
  go_wp2_with fail
  refine (var_any 0 w).mono ?_
  rintro e w1 ⟨rfl, hb1⟩
  go_wp2_with fail
  obtain ⟨b2, z2, k2⟩ := new_blk hb1 hb1.size #[.int .i64 1, .int .i64 0, .int .i64 0, .slice none 0 0, .slice none 0 0] 34
  generalize w1.alloc (Obj.cells #[.int .i64 1, .int .i64 0, .int .i64 0, .slice none 0 0, .slice none 0 0] 34) = W2 at b2 z2 k2 ⊢
  refine (n_any 5 [.mk 1 0 .zero []] _ W2 (by decide) (Rep.Sl.of_blk (R := TmR) (S := (· < W2.heap.size)) k2 (tm_one (var_is _ _ 0)) (fun _ h => h) (by omega) rfl)).mono ?_
  rintro e w3 ⟨v3, rfl, ht3, hb3⟩
  have hb03 : Below w.heap.size w w3 := b2.trans (hb3.mono b2.size)
  have HT3 := Lib.hid (show IsTm (· < w3.heap.size) w3 _ v3 from IsTm.keep (fun b h => h.2) (fun _ _ => rfl) _ ht3)
  clear ht3
  go_wp2_with fail
  refine (n_any 4 [] _ w3 (by decide) (Rep.Sl.nil _ _)).mono ?_
  rintro e w4 ⟨v4, rfl, ht4, hb4⟩
  have hb04 : Below w.heap.size w w4 := hb03.trans (hb4.mono hb03.size)
  have HT4 := Lib.hid (show IsTm (· < w4.heap.size) w4 _ v4 from IsTm.keep (fun b h => h.2) (fun _ _ => rfl) _ ht4)
  have HT3' := Lib.hid (show IsTm (· < w4.heap.size) w4 _ v3 from HT3.out.keep (fun b h => Nat.lt_of_lt_of_le h hb4.size) (fun p hp => hb4.cell hp))
  have HTab4 := Lib.hid (HTab.out.after hb04)
  clear ht4
  go_wp2_with fail
  obtain ⟨ta, hta⟩ : ∃ t, t = Tm.mk 5 0 .zero [.mk 4 0 .zero []] := ⟨_, rfl⟩
  refine (putTop_is (U := ta) (hta ▸ sane_put1) (by rw [hta]; decide) (by decide) (by decide) (by decide) (by decide) (by decide) (by decide) HTab4.out HT3'.out HT4.out).mono ?_
  rintro e w5 ⟨v5, rfl, ht5, hb5⟩
  obtain ⟨B5, d5, A5, c5, rfl, _⟩ := ht5.form
  have hb05 : Below w.heap.size w w5 := hb04.trans (hb5.mono hb04.size)
  obtain ⟨b6, z6, k6⟩ := new_blk hb05 hb05.size #[.int .i64 ta.kind, .int .i64 ta.index, .int .i64 ta.type.kind, .slice B5 ta.type.args.length d5, .slice A5 ta.args.length c5] 34
  obtain ⟨W6, hW6⟩ : ∃ W, W = w5.alloc (Obj.cells #[.int .i64 ta.kind, .int .i64 ta.index, .int .i64 ta.type.kind, .slice B5 ta.type.args.length d5, .slice A5 ta.args.length c5] 34) := ⟨_, rfl⟩
  rw [← hW6] at b6 z6 k6
  have HT6 := Lib.hid (show IsTm (· < W6.heap.size) W6 ta _ from ht5.keep (fun b h => by omega) (fun p hp => by rw [hW6]; exact World.cell?_alloc_lt _ _ _ hp))
  have HA := Lib.hid hta
  have HK6 := Lib.hid (And.intro k6 z6)
  have HB6 := Lib.hid b6
  clear ht5 b2 z2 k2 b6 z6 k6 hta hb1 hb3 hb03 hb4 hb04 hb5 hb05 HT3 HT3' HT4 HTab4
  go_wp2_with fail
  rw [← hW6]
  clear hW6
  refine (nat_any _).mono ?_
  rintro e w7 ⟨rfl, hb7⟩
  go_wp2_with fail
  refine (var_any 1 w7).mono ?_
  rintro e w8 ⟨rfl, hb8⟩
  have hb08 := hb7.trans (hb8.mono hb7.size)
  go_wp2_with fail
  obtain ⟨b9, z9, k9⟩ := new_blk hb08 hb08.size #[.int .i64 1, .int .i64 1, .int .i64 0, .slice none 0 0, .slice none 0 0] 34
  generalize w8.alloc (Obj.cells #[.int .i64 1, .int .i64 1, .int .i64 0, .slice none 0 0, .slice none 0 0] 34) = W9 at b9 z9 k9 ⊢
  refine (t_any 2 tyNat [.mk 1 1 .zero []] _ _ W9 (by decide) (by decide) (IsTy.leaf _ _ 1) (Rep.Sl.of_blk (R := TmR) (S := (· < W9.heap.size)) k9 (tm_one (var_is _ _ 1)) (fun _ h => h) (by omega) rfl)).mono ?_
  rintro e w10 ⟨v10, rfl, ht10, hb10⟩
  have hb010 := b9.trans (hb10.mono b9.size)
  have HT10 := Lib.hid (show IsTm (· < w10.heap.size) w10 _ v10 from IsTm.keep (fun b h => h.2) (fun _ _ => rfl) _ ht10)
  clear ht10
  go_wp2_with fail
  refine (var_any 3 w10).mono ?_
  rintro e w11 ⟨rfl, hb11⟩
  have hb011 := hb010.trans (hb11.mono hb010.size)
  have HT11 := Lib.hid (show IsTm (· < w11.heap.size) w11 _ v10 from HT10.out.keep (fun b h => Nat.lt_of_lt_of_le h hb11.size) (fun p hp => hb11.cell hp))
  have HTab11 := Lib.hid (HTab.out.after (HB6.out.trans (hb011.mono HB6.out.size)))
  go_wp2_with fail
  obtain ⟨tb, htb⟩ : ∃ t, t = Tm.mk 2 0 tyNat [.mk 1 4 .zero []] := ⟨_, rfl⟩
  refine (putTop_is (U := tb) (htb ▸ sane_put2) (by rw [htb]; decide) (by decide) (by decide) (by decide) (by decide) (by decide) (by decide) HTab11.out HT11.out (var_is _ _ 3)).mono ?_
  rintro e w12 ⟨v12, rfl, ht12, hb12⟩
  obtain ⟨B12, d12, A12, c12, rfl, _⟩ := ht12.form
  have hb012 := hb011.trans (hb12.mono hb011.size)
  obtain ⟨b13, z13, k13⟩ := new_blk hb012 hb012.size #[.int .i64 tb.kind, .int .i64 tb.index, .int .i64 tb.type.kind, .slice B12 tb.type.args.length d12, .slice A12 tb.args.length c12] 34
  obtain ⟨W, hW⟩ : ∃ W, W = w12.alloc (Obj.cells #[.int .i64 tb.kind, .int .i64 tb.index, .int .i64 tb.type.kind, .slice B12 tb.type.args.length d12, .slice A12 tb.args.length c12] 34) := ⟨_, rfl⟩
  rw [← hW] at b13 z13 k13
  have HTB := Lib.hid (show IsTm (· < W.heap.size) W tb _ from ht12.keep (fun b h => by omega) (fun p hp => by rw [hW]; exact World.cell?_alloc_lt _ _ _ hp))
  have HTA := Lib.hid (show IsTm (· < W.heap.size) W ta _ from HT6.out.keep (fun b h => Nat.lt_of_lt_of_le h b13.size) (fun p hp => b13.cell hp))
  have HKB := Lib.hid htb
  have HK := Lib.hid (And.intro (HK6.out.1.below b13 HK6.out.1.lt) k13)
  have HBW := Lib.hid (HB6.out.trans (b13.mono HB6.out.size))
  clear ht12 b9 z9 k9 b13 z13 k13 htb hb7 hb8 hb08 hb10 hb010 hb11 hb011 hb12 hb012 HT10 HT11 HTab11 HT6 HK6 HB6
  go_upto_region 3 with fail
  rw [← hW]
  clear hW
  have HAB := Lib.hid (show ta.bulk ≤ 400000 by rw [HA.out]; decide)
  have HBB := Lib.hid (show tb.bulk ≤ 400000 by rw [HKB.out]; decide)
  have GD := Lib.hid ((Below.refl W.heap.size W).drew)
  have HSK := Lib.hid fun (w1 : World) (h : Below W.heap.size W w1) => And.intro h (And.intro (HK.out.1.below h HK.out.1.lt).facts5.1 (And.intro (HK.out.1.below h HK.out.1.lt).facts5.2.1 (And.intro (HK.out.1.below h HK.out.1.lt).facts5.2.2.1 (And.intro (HK.out.1.below h HK.out.1.lt).facts5.2.2.2.1 (And.intro (HK.out.1.below h HK.out.1.lt).facts5.2.2.2.2.1 (And.intro (HK.out.2.below h HK.out.2.lt).facts5.1 (And.intro (HK.out.2.below h HK.out.2.lt).facts5.2.1 (And.intro (HK.out.2.below h HK.out.2.lt).facts5.2.2.1 (And.intro (HK.out.2.below h HK.out.2.lt).facts5.2.2.2.1 ((HK.out.2.below h HK.out.2.lt).facts5.2.2.2.2.1))))))))))
  go_region_held3 (fun w' => Below W.heap.size W w' ∧ w'.cell? ⟨w5.heap.size, 0, none⟩ = some (.int .i64 ta.kind) ∧ w'.cell? ⟨w5.heap.size, 1, none⟩ = some (.int .i64 ta.index) ∧ w'.cell? ⟨w5.heap.size, 2, none⟩ = some (.int .i64 ta.type.kind) ∧ w'.cell? ⟨w5.heap.size, 3, none⟩ = some (.slice B5 ta.type.args.length d5) ∧ w'.cell? ⟨w5.heap.size, 4, none⟩ = some (.slice A5 ta.args.length c5) ∧ w'.cell? ⟨w12.heap.size, 0, none⟩ = some (.int .i64 tb.kind) ∧ w'.cell? ⟨w12.heap.size, 1, none⟩ = some (.int .i64 tb.index) ∧ w'.cell? ⟨w12.heap.size, 2, none⟩ = some (.int .i64 tb.type.kind) ∧ w'.cell? ⟨w12.heap.size, 3, none⟩ = some (.slice B12 tb.type.args.length d12) ∧ w'.cell? ⟨w12.heap.size, 4, none⟩ = some (.slice A12 tb.args.length c12))
    (first | with_reducible exact HSK.out _ GD.out | with_reducible exact HSK.out _ G14.out | with_reducible exact HSK.out _ Q14.out | with_reducible exact HSK.out _ G15.out | with_reducible exact HSK.out _ G16.out | with_reducible exact HSK.out _ G17.out | with_reducible exact HSK.out _ G18.out | with_reducible exact HSK.out _ Q18.out | with_reducible exact HSK.out _ G19.out | with_reducible exact HSK.out _ G20.out | go_keep)
    (first
      | (go_at_call 20
         (with_reducible refine (sameT_refl 400000 tb _ _ w19 HBB.out (Nat.le_refl _) (HTB.out.keep (fun b h => Nat.lt_of_lt_of_le h G19.out.size) (fun p hp => G19.out.cell hp)) T19.out).mono ?_)
         rintro e w20 ⟨rfl, hb20⟩
         have G20 := Lib.hid (show Below W.heap.size W w20 from G19.out.trans (hb20.mono G19.out.size))
         clear hb20)
      | (go_at_call 25
         (with_reducible refine (t_any 2 tyNat [.mk 1 4 .zero []] _ (.slice (some ⟨w18.heap.size, 0, none⟩) 1 1) (w18.alloc (Obj.cells #[.int .i64 1, .int .i64 4, .int .i64 0, .slice none 0 0, .slice none 0 0] 34)) (by decide) (by decide) (IsTy.leaf _ _ 1) S18.out).mono ?_)
         rintro e w19 ⟨v19, rfl, ht19, hb19⟩
         rw [← HKB.out] at ht19
         obtain ⟨B19, d19, A19, c19, rfl, _⟩ := ht19.form
         have G19 := Lib.hid (show Below W.heap.size W w19 from Q18.out.trans (hb19.mono Q18.out.size))
         have T19 := Lib.hid (show IsTm (· < w19.heap.size) w19 tb _ from IsTm.keep (fun b h => h.2) (fun _ _ => rfl) _ ht19)
         clear ht19 hb19)
      | (go_at_call 39
         (with_reducible refine (var_any 4 w17).mono ?_)
         rintro e w18 ⟨rfl, hb18⟩
         have G18 := Lib.hid (show Below W.heap.size W w18 from G17.out.trans (hb18.mono G17.out.size))
         have Q18 := Lib.hid (G18.out.alloc G18.out.size (Obj.cells #[.int .i64 1, .int .i64 4, .int .i64 0, .slice none 0 0, .slice none 0 0] 34))
         have S18 := Lib.hid (sl_new_var (w := w18) 4)
         clear hb18)
      | (go_at_call 40
         (with_reducible refine (nat_any w16).mono ?_)
         rintro e w17 ⟨rfl, hb17⟩
         have G17 := Lib.hid (show Below W.heap.size W w17 from G16.out.trans (hb17.mono G16.out.size))
         clear hb17)
      | (go_at_call 20
         (with_reducible refine (sameT_refl 400000 ta _ _ w15 HAB.out (Nat.le_refl _) (HTA.out.keep (fun b h => Nat.lt_of_lt_of_le h G15.out.size) (fun p hp => G15.out.cell hp)) T15.out).mono ?_)
         rintro e w16 ⟨rfl, hb16⟩
         have G16 := Lib.hid (show Below W.heap.size W w16 from G15.out.trans (hb16.mono G15.out.size))
         clear hb16)
      | (go_at_call 24
         (with_reducible refine (n_any 5 [tz] (.slice (some ⟨w14.heap.size, 0, none⟩) 1 1) (w14.alloc (Obj.cells #[.int .i64 tz.kind, .int .i64 tz.index, .int .i64 tz.type.kind, .slice B14 tz.type.args.length d14, .slice A14 tz.args.length c14] 34)) HZB.out S14.out).mono ?_)
         rintro e w15 ⟨v15, rfl, ht15, hb15⟩
         rw [HZ.out, ← HA.out] at ht15
         obtain ⟨B15, d15, A15, c15, rfl, _⟩ := ht15.form
         have G15 := Lib.hid (show Below W.heap.size W w15 from Q14.out.trans (hb15.mono Q14.out.size))
         have T15 := Lib.hid (show IsTm (· < w15.heap.size) w15 ta _ from IsTm.keep (fun b h => h.2) (fun _ _ => rfl) _ ht15)
         clear ht15 hb15)
      | (go_at_call 24
         (with_reducible refine (n_any 4 [] (.slice none 0 0) W.drew (by decide) (Rep.Sl.nil _ _)).mono ?_)
         rintro e w14 ⟨v14, rfl, ht14, hb14⟩
         obtain ⟨tz, htz⟩ : ∃ t, t = Tm.mk 4 0 .zero [] := ⟨_, rfl⟩
         rw [← htz] at ht14
         obtain ⟨B14, d14, A14, c14, rfl, _⟩ := ht14.form
         have HZ := Lib.hid htz
         have G14 := Lib.hid (show Below W.heap.size W w14 from (Below.refl W.heap.size W).drew.trans hb14)
         have Q14 := Lib.hid (G14.out.alloc G14.out.size (Obj.cells #[.int .i64 tz.kind, .int .i64 tz.index, .int .i64 tz.type.kind, .slice B14 tz.type.args.length d14, .slice A14 tz.args.length c14] 34))
         have S14 := Lib.hid (sl_new_tm (w := w14) (T := tz) (IsTm.keep (fun b h => h.2) (fun _ _ => rfl) _ ht14))
         have HZB := Lib.hid (show bulkAll [tz] ≤ 400000 by rw [htz]; decide)
         clear ht14 hb14 htz))
  go_wp2_with fail
  go_ret
  exact ⟨rfl, HBW.out.trans (G20.out.mono HBW.out.size)⟩
end Go.Proofs.YtnodebcbnfkioaaDoor
namespace Go.Proofs.YtnodebcbnfkioaaDoor
open Go.RowKit

theorem typeOf_made {G : List Ty} {t : Ty} {a p : Nat} {T : Tm} (h : Made G t a p T) (ha : a ≤ 4096) (hG : G.length ≤ 16) (hok : ∀ U ∈ G, U.ok = true ∧ U.nodes ≤ 3) : T.typeOf G = .ok t := by
  have hc : ctxErr G = 0 := by
    unfold ctxErr
    rw [if_neg (by omega)]
    clear h hG
    induction G with
    | nil => rfl
    | cons U r ih =>
      unfold errs
      have h0 := hok U (by simp)
      have e : U.err = 0 := err_zero.2 ⟨h0.1, by omega⟩
      rw [if_pos e]
      exact ih (fun V hV => hok V (by simp [hV]))
  unfold Tm.typeOf
  rw [if_pos hc, if_pos (errT_zero.2 ⟨h.ok, by have := h.size; omega⟩), h.typ]
theorem nodesAll_small {G : List Ty} (hok : ∀ U ∈ G, U.ok = true ∧ U.nodes ≤ 3) : nodesAll G ≤ 3 * G.length := by
  induction G with
  | nil => simp [nodesAll]
  | cons U r ih =>
    have h0 := (hok U (by simp)).2
    have := ih (fun V hV => hok V (by simp [hV]))
    simp only [nodesAll, List.length_cons]; omega
theorem Made.more {G : List Ty} {t : Ty} {a p : Nat} {T : Tm} (h : Made G t a p T) (L : List Ty) : Made (L ++ G) t a p T := { h with typ := typ_more L T G h.typ }
theorem type_three {S : Ty} (h : S.nodes + 1 ≤ 2 ^ (1 + 1)) : S.nodes ≤ 3 := by simp at h; omega
end Go.Proofs.YtnodebcbnfkioaaDoor
namespace Go.Proofs.YtnodebcbnfkioaaDoor
open Go.ChangeShapes Go.WideShapes Go.ChangeAt Go.WideMaps Go.WideElems Go.RowKit

def laidTab : List (String × DataW Unit) := [("proofprograms/terms.arity", Rows.laid_proofprograms_terms_arity)]
theorem gArity : Tryd.prog.globalNamed "proofprograms/terms.arity" = some 0 := by kernel_rfl
theorem tArity : (Tryd.prog.globals[0]?).map (·.type) = some 141 := by kernel_rfl

/-- The door's own heap meets the condition. -/
theorem door_met (os : Os) (args : Array Value) : laidMetH Tryd.prog laidTab ((World.doorLaid Tryd.prog 400 os).forCall (fun _ _ => 0) ⟨#[], args, []⟩).memory :=
  laidMetH_of_parts3 (fuel := 8) (laidMet_of_run' 8 (by kernel_rfl) (by kernel_rfl)) (by kernel_rfl) (by kernel_rfl)

theorem tab_of_laid {W : World} (h : laidMetH Tryd.prog laidTab W) : Tab W := by
  rw [MakeChecks.laidMetH_plain _ _ _ (by kernel_rfl)] at h
  obtain ⟨ps, ⟨g0, t0, cs0, f0, p0, q0, hg0, ht0, hv0, hd0, _, _⟩, _, _⟩ := h
  obtain rfl := Option.some.inj (gArity.symm.trans hg0)
  obtain rfl := Option.some.inj (tArity.symm.trans ht0)
  obtain ⟨xs, m1, rfl, hx1, hlen, hn3, hel⟩ := DataW.trod_array Tryd.underlying141 hd0
  have c3 : Tryd.prog.cellsOf 3 = 1 := by kernel_rfl
  intro i u hu
  have hi : i < 14 := by
    have := (List.getElem?_eq_some_iff.1 hu).1
    exact this
  have h0 := hel i hi
  obtain ⟨x, hx⟩ : ∃ x, xs[i]? = some x := ⟨_, List.getElem?_eq_getElem (by omega)⟩
  rw [hx] at h0
  obtain ⟨k, e1, e2, _⟩ := DataW.trod_int Tryd.underlying3 h0
  subst e2
  rw [c3, Nat.mul_one] at e1
  have hc : cs0[i]? = some (.int .i64 k) := by
    have h1 : (List.take 1 (List.drop i cs0.toList))[0]? = some (.int .i64 k) := by rw [e1]; rfl
    simpa [List.getElem?_take, List.getElem?_drop] using h1
  have hlaid : Rows.laid_proofprograms_terms_arity (H := Unit) = .agg (arities.map fun (u : Nat) => .lit (.int .i64 (u : Int))) := rfl
  rw [hlaid] at hx1
  simp only [Prod.mk.injEq, DataW.agg.injEq] at hx1
  have h2 : (arities.map fun (u : Nat) => (DataW.lit (.int .i64 (u : Int)) : DataW Unit))[i]? = (xs.map (·.1))[i]? := by rw [hx1.1]
  rw [List.getElem?_map, List.getElem?_map, hu, hx] at h2
  simp only [Option.map_some, Option.some.injEq, DataW.lit.injEq, Lit.int.injEq, true_and] at h2
  rw [World.var?_cell hg0 hv0 i, hc, ← h2]

/-- What a law over the table owes behind the call. -/
theorem lawTab_post {H : Type} {enc : TypeId × Value → H} {f : Func} {s : ChangeSpec} {W W' : World} {args : Array Value} {ds : List (DataW H)} {before : List MemPlace}
    (hW : DataW.Whole enc Tryd.prog f.params.toList s.vars false W args.toList ds [] before) (hvars : s.vars = []) (hA : DataW.TrodAll enc Tryd.prog W 0 (fun _ => true) true f.params.toList args.toList ds before)
    (hr : ∀ t ∈ f.params.toList, Tryd.prog.readableRec t = true ∧ t < Tryd.prog.types.size)
    (hres : f.resultTypes = #[4]) (h1 : (s.fn H (ds ++ [])).results = [.lit (.bool true)]) (h2 : (s.fn H (ds ++ [])).args = ds) (h3 : (s.fn H (ds ++ [])).vars = []) (hb : Below W.heap.size W W') :
    s.post enc Tryd.prog f false true false false W args (.bool true) W' := law_post hW hvars hA hr hres h1 h2 h3 hb
/-! What joinedFacts asks of the whole program, each alone: together they take more memory than a build may have. -/
theorem prog_enter : Tryd.pinned.checked.prog.mayEnter = true := by kernel_rfl
theorem prog_lifts : Tryd.pinned.checked.prog.liftsFinal = false := by kernel_rfl
theorem prog_make : Tryd.pinned.checked.prog.make = some .cut := by kernel_rfl
end Go.Proofs.YtnodebcbnfkioaaDoor
