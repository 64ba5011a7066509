/- Small lemmas of the laws on terms. -/
import Derived.Test.YtnodebcbnfkioaaDoorPackInfer
import Derived.Test.YtnodebcbnfkioaaDoorPackK
import Derived.Test.YtnodebcbnfkioaaDoorPackWalk
import Derived.Deep.RegionHeld3
import Derived.Test.YtnodebcbnfkioaaDoorRefSame
import Derived.Test.YtnodebcbnfkioaaDoorMakeT
import Derived.Test.YtnodebcbnfkioaaDoorPackSubst
import Derived.Test.YtnodebcbnfkioaaDoorLawKit
import Derived.Test.YtnodebcbnfkioaaDoorFormedT
import Derived.ProofKit
import Derived.LaidMore
import Derived.OpenShut
import Derived.Stop.Joined
namespace Go.Proofs.YtnodebcbnfkioaaDoor
open Go.RowKit

theorem Made.more {G : List Ty} {t : Ty} {a p : Nat} {T : Tm} (h : Made G t a p T) (L : List Ty) : Made (L ++ G) t a p T := { h with typ := typ_more L T G h.typ }
theorem type_three {S : Ty} (h : S.nodes + 1 ≤ 2 ^ (1 + 1)) : S.nodes ≤ 3 := by simp at h; omega
end Go.Proofs.YtnodebcbnfkioaaDoor
namespace Go.Proofs.YtnodebcbnfkioaaDoor
open Go.RowKit

theorem bdN3 (t : Ty) : bdN 3 t ≤ 276 := by unfold bdN; split <;> decide
end Go.Proofs.YtnodebcbnfkioaaDoor
namespace Go.Proofs.YtnodebcbnfkioaaDoor
open Go.RowKit

set_option maxRecDepth 100000 in
set_option maxHeartbeats 4000000 in
theorem sameT_refl (n : Nat) : ∀ (t : Tm) (u v : Value) (w : World), t.bulk ≤ n → n ≤ 400000 → IsTm (· < w.heap.size) w t u → IsTm (· < w.heap.size) w t v →
    Calls Tryd.prog 20 #[u, v] w fun e w' => e = .returned (.bool true) ∧ Below w.heap.size w w' := by
  induction n with
  | zero => intro t; have := bulk_pos t; omega
  | succ n ih =>
    rintro ⟨k, i, T, l⟩ u v w hn hb hu hv
    obtain ⟨B, d, A, c, rfl, hT, hl⟩ := hu.mk_parts
    obtain ⟨B', d', A', c', rfl, hT', hl'⟩ := hv.mk_parts
    have hll := bulkAll_len l
    simp only [Tm.bulk] at hn
    have IH := Lib.hid ih
    have HL := Lib.hid (And.intro hl hl')
    obtain ⟨b1, z1, k1⟩ := new_blk (Below.refl w.heap.size w) (Nat.le_refl _) #[.int .i64 k, .int .i64 i, .int .i64 T.kind, .slice B T.args.length d, .slice A l.length c] 34
    obtain ⟨b2, z2, k2⟩ := new_blk b1 b1.size #[.int .i64 k, .int .i64 i, .int .i64 T.kind, .slice B' T.args.length d', .slice A' l.length c'] 34
    have k1 := k1.alloc (Obj.cells #[.int .i64 k, .int .i64 i, .int .i64 T.kind, .slice B' T.args.length d', .slice A' l.length c'] 34)
    rw [z1] at k2 z2
    obtain ⟨W, hW⟩ : ∃ W, W = (w.alloc (Obj.cells #[.int .i64 k, .int .i64 i, .int .i64 T.kind, .slice B T.args.length d, .slice A l.length c] 34)).alloc (Obj.cells #[.int .i64 k, .int .i64 i, .int .i64 T.kind, .slice B' T.args.length d', .slice A' l.length c'] 34) := ⟨_, rfl⟩
    rw [← hW] at b2 z2 k1 k2
    have HTY := Lib.hid (And.intro (hT.boxed' b2) (hT'.boxed' b2))
    have hTn : T.nodes ≤ 400000 := by omega
    have HKK := Lib.hid (And.intro k1 (And.intro k2 b2))
    obtain ⟨p0, p1, p2, p3, p4, _⟩ := k1.facts5
    obtain ⟨s0, s1, s2, s3, s4, _⟩ := k2.facts5
    clear hu hv hT hT' hl hl' ih b1 z1 k1 k2
    go_enter Tryd.func20, Tryd.ntmps20
    go_wp2_with fail
    rw [← hW]
    clear hW
    refine (refSame_any 400000 T T _ _ W hTn (Nat.le_refl _) HTY.out.1 HTY.out.2 hTn).mono ?_
    rintro e W1 ⟨rfl, hbW⟩
    rw [eqb_self]
    have HBW := Lib.hid hbW
    have HK2 := Lib.hid (And.intro (HKK.out.1.below hbW HKK.out.1.lt) (And.intro (HKK.out.2.1.below hbW HKK.out.2.1.lt) (HKK.out.2.2.trans (hbW.mono HKK.out.2.2.size))))
    obtain ⟨_, _, _, _, q4, _⟩ := HK2.out.1.facts5
    obtain ⟨_, _, _, _, r4, _⟩ := HK2.out.2.1.facts5
    clear hbW p0 p1 p2 p3 p4 s0 s1 s2 s3 s4
    go_wp2_with fail
    go_loopw [38] (fun ix wr => ∃ j : Nat, j ≤ l.length ∧ ix = .int .i64 j ∧ Below W1.heap.size W1 wr) (fun ix _ => l.length - (intOf ix).toNat)
    case atStart => exact ⟨0, by omega, rfl, Below.refl _ _⟩
    case round =>
      obtain ⟨j, hj, rfl, hbel⟩ := hrel
      have hws := hbel.size
      have hB2 : Below w.heap.size w wr := HK2.out.2.2.trans (hbel.mono HK2.out.2.2.size)
      by_cases hlt : j < l.length
      · have hl1 : TmR.Sl (· < w.heap.size) wr l (.slice A l.length c) := HL.out.1.keep (fun _ h => h) (fun p hp => hB2.cell hp)
        have hm1 : TmR.Sl (· < w.heap.size) wr l (.slice A' l.length c') := HL.out.2.keep (fun _ h => h) (fun p hp => hB2.cell hp)
        obtain ⟨a, rfl, ha, hat⟩ := hl1.get j hlt
        obtain ⟨a', rfl, ha', hat'⟩ := hm1.get j hlt
        obtain ⟨B1, d1, A1, c1, q0, q1, q2, q3, q4', hx⟩ := at_tm hat
        obtain ⟨B2, d2, A2, c2, r0, r1, r2, r3, r4', hy⟩ := at_tm hat'
        simp only [show TmR.n = 5 from rfl] at q0 q1 q2 q3 q4' r0 r1 r2 r3 r4'
        have hnj := bulkAll_get l j hlt
        have hab : (a.add (j * 5)).block < w.heap.size := by rw [add_block]; exact ha
        have hab' : (a'.add (j * 5)).block < w.heap.size := by rw [add_block]; exact ha'
        have hwz := hB2.size
        have k1 := HK2.out.1.below hbel HK2.out.1.lt
        have k2 := HK2.out.2.1.below hbel HK2.out.2.1.lt
        have HSK := Lib.hid fun (w1 : World) (h : Below wr.heap.size wr w1) => And.intro (k1.below h k1.lt).facts5.2.2.2.2.1 (And.intro (k2.below h k2.lt).facts5.2.2.2.2.1
          (And.intro ((h.cell (p := a.add (j * 5)) (by omega)).trans q0) (And.intro ((h.cell (p := ⟨(a.add (j * 5)).block, (a.add (j * 5)).off + 1, none⟩) (by show (a.add (j * 5)).block < _; omega)).trans q1)
            (And.intro ((h.cell (p := ⟨(a.add (j * 5)).block, (a.add (j * 5)).off + 2, none⟩) (by show (a.add (j * 5)).block < _; omega)).trans q2) (And.intro ((h.cell (p := ⟨(a.add (j * 5)).block, (a.add (j * 5)).off + 3, none⟩) (by show (a.add (j * 5)).block < _; omega)).trans q3)
              (And.intro ((h.cell (p := ⟨(a.add (j * 5)).block, (a.add (j * 5)).off + 4, none⟩) (by show (a.add (j * 5)).block < _; omega)).trans q4')
          (And.intro ((h.cell (p := a'.add (j * 5)) (by omega)).trans r0) (And.intro ((h.cell (p := ⟨(a'.add (j * 5)).block, (a'.add (j * 5)).off + 1, none⟩) (by show (a'.add (j * 5)).block < _; omega)).trans r1)
            (And.intro ((h.cell (p := ⟨(a'.add (j * 5)).block, (a'.add (j * 5)).off + 2, none⟩) (by show (a'.add (j * 5)).block < _; omega)).trans r2) (And.intro ((h.cell (p := ⟨(a'.add (j * 5)).block, (a'.add (j * 5)).off + 3, none⟩) (by show (a'.add (j * 5)).block < _; omega)).trans r3)
              ((h.cell (p := ⟨(a'.add (j * 5)).block, (a'.add (j * 5)).off + 4, none⟩) (by show (a'.add (j * 5)).block < _; omega)).trans r4')))))))))))
        have ARM := Lib.hid (show Calls Tryd.prog 20 #[.agg #[.int .i64 l[j].kind, .int .i64 l[j].index, .int .i64 l[j].type.kind, .slice B1 l[j].type.args.length d1, .slice A1 l[j].args.length c1],
            .agg #[.int .i64 l[j].kind, .int .i64 l[j].index, .int .i64 l[j].type.kind, .slice B2 l[j].type.args.length d2, .slice A2 l[j].args.length c2]] wr.drew fun e w' => e = .returned (.bool true) ∧ Below wr.heap.size wr w' by
          refine (IH.out l[j] _ _ wr.drew (by omega) (by omega) (hx.keep (fun b h => Nat.lt_of_lt_of_le h hwz) (fun p _ => World.cell?_drew _ p)) (hy.keep (fun b h => Nat.lt_of_lt_of_le h hwz) (fun p _ => World.cell?_drew _ p))).mono ?_
          rintro e w1 ⟨h1, h2⟩
          exact ⟨h1, ((Below.refl _ wr).drew).trans h2⟩)
        obtain ⟨m0, m1, _⟩ := HSK.out wr (Below.refl _ _)
        have HBL := Lib.hid hbel
        clear hl1 hm1 hat hat' hx hy k1 k2 q0 q1 q2 q3 q4' r0 r1 r2 r3 r4' hbel hB2
        go_wp2_with fail
        go_region_held3 (fun w' => w'.cell? ⟨w.heap.size, 4, none⟩ = some (.slice (some a) l.length c) ∧ w'.cell? ⟨w.heap.size + 1, 4, none⟩ = some (.slice (some a') l.length c') ∧
            w'.cell? (a.add (j * 5)) = some (.int .i64 l[j].kind) ∧ w'.cell? ⟨(a.add (j * 5)).block, (a.add (j * 5)).off + 1, none⟩ = some (.int .i64 l[j].index) ∧ w'.cell? ⟨(a.add (j * 5)).block, (a.add (j * 5)).off + 2, none⟩ = some (.int .i64 l[j].type.kind) ∧
            w'.cell? ⟨(a.add (j * 5)).block, (a.add (j * 5)).off + 3, none⟩ = some (.slice B1 l[j].type.args.length d1) ∧ w'.cell? ⟨(a.add (j * 5)).block, (a.add (j * 5)).off + 4, none⟩ = some (.slice A1 l[j].args.length c1) ∧
            w'.cell? (a'.add (j * 5)) = some (.int .i64 l[j].kind) ∧ w'.cell? ⟨(a'.add (j * 5)).block, (a'.add (j * 5)).off + 1, none⟩ = some (.int .i64 l[j].index) ∧ w'.cell? ⟨(a'.add (j * 5)).block, (a'.add (j * 5)).off + 2, none⟩ = some (.int .i64 l[j].type.kind) ∧
            w'.cell? ⟨(a'.add (j * 5)).block, (a'.add (j * 5)).off + 3, none⟩ = some (.slice B2 l[j].type.args.length d2) ∧ w'.cell? ⟨(a'.add (j * 5)).block, (a'.add (j * 5)).off + 4, none⟩ = some (.slice A2 l[j].args.length c2))
          (first | with_reducible exact HSK.out _ (Below.refl _ _).drew | with_reducible exact HSK.out _ HB1.out | go_keep)
          (first
            | (go_at_call 20
               (with_reducible refine ARM.out.mono ?_)
               rintro e w1 ⟨rfl, hb1⟩
               have HB1 := Lib.hid hb1
               clear hb1))
        go_wp2_with fail
        exact ⟨⟨j + 1, by omega, by go_num, HBL.out.trans (HB1.out.mono hws)⟩, by simp [intOf]; omega⟩
      · have hjl : j = l.length := by omega
        subst hjl
        clear hbel
        go_wp2_with fail
        go_ret
        exact ⟨rfl, hB2⟩
end Go.Proofs.YtnodebcbnfkioaaDoor
namespace Go.Proofs.YtnodebcbnfkioaaDoor
open Go.RowKit

theorem sl_new_tm {w : World} {T : Tm} {B A : Option Addr} {d c : Nat} (h : IsTm (· < w.heap.size) w T (.agg #[.int .i64 T.kind, .int .i64 T.index, .int .i64 T.type.kind, .slice B T.type.args.length d, .slice A T.args.length c])) :
    TmR.Sl (· < (w.alloc (Obj.cells #[.int .i64 T.kind, .int .i64 T.index, .int .i64 T.type.kind, .slice B T.type.args.length d, .slice A T.args.length c] 34)).heap.size) (w.alloc (Obj.cells #[.int .i64 T.kind, .int .i64 T.index, .int .i64 T.type.kind, .slice B T.type.args.length d, .slice A T.args.length c] 34)) [T] (.slice (some ⟨w.heap.size, 0, none⟩) 1 1) :=
  Rep.Sl.of_blk (R := TmR) (Blk.new w 34 _) (tm_one (IsTm.keep (fun b h => by have h' : b < w.heap.size := h; simp; omega) (fun p hp => World.cell?_alloc_lt _ _ _ hp) _ h)) (fun _ h => h) (by simp) rfl
theorem sl_new_var {w : World} (i : Int) : TmR.Sl (· < (w.alloc (Obj.cells #[.int .i64 1, .int .i64 i, .int .i64 0, .slice none 0 0, .slice none 0 0] 34)).heap.size) (w.alloc (Obj.cells #[.int .i64 1, .int .i64 i, .int .i64 0, .slice none 0 0, .slice none 0 0] 34)) [.mk 1 i .zero []] (.slice (some ⟨w.heap.size, 0, none⟩) 1 1) :=
  Rep.Sl.of_blk (R := TmR) (Blk.new w 34 _) (tm_one (var_is _ _ i)) (fun _ h => h) (by simp) rfl

end Go.Proofs.YtnodebcbnfkioaaDoor
namespace Go.Proofs.YtnodebcbnfkioaaDoor
open Go.RowKit

theorem sane_next : (Tm.mk 3 0 .zero [.mk 2 0 tyNat [.mk 5 0 .zero [.mk 1 0 .zero []]], .mk 4 0 .zero []]).next = some (.mk 5 0 .zero [.mk 4 0 .zero []]) := by rfl
set_option maxRecDepth 100000 in
set_option maxHeartbeats 4000000 in
theorem saneR_any (w : World) (htab : Tab w) : Calls Tryd.prog 17 #[] w fun e w' => e = .returned (.bool true) ∧ Below w.heap.size w w' := by
  have HTab := Lib.hid htab
  clear htab
  go_enter Tryd.func17, Tryd.ntmps17
  go_wp2_with fail
  refine (nat_any _).mono ?_
  rintro e w0 ⟨rfl, hb0⟩
  go_wp2_with fail
  refine (var_any 0 w0).mono ?_
  rintro e w1 ⟨rfl, hb1⟩
  have hb01 := hb0.trans (hb1.mono hb0.size)
  have HB1 := Lib.hid hb01
  have HS1 := Lib.hid (sl_new_var (w := w1) 0)
  have HQ1 := Lib.hid (hb01.alloc hb01.size (Obj.cells #[.int .i64 1, .int .i64 0, .int .i64 0, .slice none 0 0, .slice none 0 0] 34))
  clear hb0 hb1 hb01
  go_wp2_with fail
  obtain ⟨ts, hts⟩ : ∃ t, Hid (t = Tm.mk 5 0 .zero [.mk 1 0 .zero []]) := ⟨_, Lib.hid rfl⟩
  refine (n_any 5 [.mk 1 0 .zero []] _ _ (by decide) HS1.out).mono ?_
  rintro e w3 ⟨v3, rfl, ht3, hb3⟩
  rw [← hts.out] at ht3
  obtain ⟨B3, d3, A3, c3, rfl, _⟩ := ht3.form
  have HB3 := Lib.hid (HQ1.out.trans (hb3.mono HQ1.out.size))
  have HQ3 := Lib.hid (HB3.out.alloc HB3.out.size (Obj.cells #[.int .i64 ts.kind, .int .i64 ts.index, .int .i64 ts.type.kind, .slice B3 ts.type.args.length d3, .slice A3 ts.args.length c3] 34))
  have HT3 := Lib.hid (sl_new_tm (w := w3) (T := ts) (IsTm.keep (fun b h => h.2) (fun _ _ => rfl) _ ht3))
  have hbs : bulkAll [ts] ≤ 400000 := by rw [hts.out]; decide
  clear ht3 hb3
  go_wp2_with fail
  obtain ⟨tl, htl⟩ : ∃ t, Hid (t = Tm.mk 2 0 tyNat [ts]) := ⟨_, Lib.hid rfl⟩
  refine (t_any 2 tyNat [ts] _ _ _ (by decide) hbs (IsTy.leaf _ _ 1) HT3.out).mono ?_
  rintro e w4 ⟨v4, rfl, ht4, hb4⟩
  rw [← htl.out] at ht4
  obtain ⟨B4, d4, A4, c4, rfl, _⟩ := ht4.form
  have HB4 := Lib.hid (HQ3.out.trans (hb4.mono HQ3.out.size))
  have HT4 := Lib.hid (show IsTm (· < w4.heap.size) w4 tl _ from IsTm.keep (fun b h => h.2) (fun _ _ => rfl) _ ht4)
  clear ht4 hb4
  go_wp2_with fail
  obtain ⟨tz, htz⟩ : ∃ t, Hid (t = Tm.mk 4 0 .zero []) := ⟨_, Lib.hid rfl⟩
  refine (n_any 4 [] _ w4 (by decide) (Rep.Sl.nil _ _)).mono ?_
  rintro e w5 ⟨v5, rfl, ht5, hb5⟩
  rw [← htz.out] at ht5
  obtain ⟨B5, d5, A5, c5, rfl, _⟩ := ht5.form
  have HB5 := Lib.hid (HB4.out.trans (hb5.mono HB4.out.size))
  have HQ5 := Lib.hid (HB5.out.alloc HB5.out.size (Obj.cells #[.int .i64 tl.kind, .int .i64 tl.index, .int .i64 tl.type.kind, .slice B4 tl.type.args.length d4, .slice A4 tl.args.length c4, .int .i64 tz.kind, .int .i64 tz.index, .int .i64 tz.type.kind, .slice B5 tz.type.args.length d5, .slice A5 tz.args.length c5] 34))
  have HT5 := Lib.hid (tm_sl2 (HT4.out.keep (fun b h => Nat.lt_of_lt_of_le h hb5.size) (fun p hp => hb5.cell hp)) (show IsTm (· < w5.heap.size) w5 tz _ from IsTm.keep (fun b h => h.2) (fun _ _ => rfl) _ ht5))
  have hbl : bulkAll [tl, tz] ≤ 400000 := by rw [htl.out, htz.out, hts.out]; decide
  clear ht5 hb5
  go_wp2_with fail
  obtain ⟨tx, htx⟩ : ∃ t, Hid (t = Tm.mk 3 0 .zero [tl, tz]) := ⟨_, Lib.hid rfl⟩
  refine (n_any 3 [tl, tz] _ _ hbl HT5.out).mono ?_
  rintro e w6 ⟨v6, rfl, ht6, hb6⟩
  rw [← htx.out] at ht6
  have HB6 := Lib.hid (HQ5.out.trans (hb6.mono HQ5.out.size))
  have HT6 := Lib.hid (show IsTm (· < w6.heap.size) w6 tx _ from IsTm.keep (fun b h => h.2) (fun _ _ => rfl) _ ht6)
  have HX := Lib.hid (show tx = Tm.mk 3 0 .zero [.mk 2 0 tyNat [.mk 5 0 .zero [.mk 1 0 .zero []]], .mk 4 0 .zero []] by rw [htx.out, htl.out, htz.out, hts.out])
  clear ht6 hb6 htx htl htz hts hbs hbl HQ1 HQ3 HQ5 HT3 HT4 HT5 HS1 HB1 HB3 HB4 HB5
  go_wp2_with fail
  refine (stepTop_any tx _ (· < w6.heap.size) w6 (by rw [HX.out]; decide) (by rw [HX.out]; decide) (by rw [HX.out]; decide) (HTab.out.after HB6.out) (fun _ h => h) HT6.out).mono ?_
  rintro e w7 ⟨hb7, h7⟩
  obtain ⟨ta, hta⟩ : ∃ t, t = Tm.mk 5 0 .zero [.mk 4 0 .zero []] := ⟨_, rfl⟩
  have hnx : tx.next = some ta := by rw [HX.out, hta]; exact sane_next
  have h7' : ∃ v7, e = .returned (.tuple #[v7, .bool true, .int .i64 0]) ∧ IsTm (· < w7.heap.size) w7 ta v7 := by
    rcases h7 with ⟨u, v', rfl, hu, h1, _⟩ | ⟨v', _, _, h1⟩ | ⟨_, x, h1, h2⟩
    · rw [hnx] at h1
      cases h1
      exact ⟨v', rfl, IsTm.keep (fun b h => h.2) (fun _ _ => rfl) _ hu⟩
    · rw [hnx] at h1; cases h1
    · rw [hnx] at h1
      cases h1
      rw [hta] at h2
      exact absurd h2 (by decide)
  obtain ⟨v7, rfl, ht7⟩ := h7'
  obtain ⟨B7, d7, A7, c7, rfl, _⟩ := ht7.form
  have HB7 := Lib.hid (HB6.out.trans (hb7.mono HB6.out.size))
  have HT7 := Lib.hid ht7
  have HA := Lib.hid hta
  have HZ7 := Lib.hid (Below.refl w7.heap.size w7)
  clear hb7 h7 hta hnx ht7
  go_upto_region 2 with fail
  obtain ⟨b8, z8, k8⟩ := new_blk HB7.out HB7.out.size #[.int .i64 ta.kind, .int .i64 ta.index, .int .i64 ta.type.kind, .slice B7 ta.type.args.length d7, .slice A7 ta.args.length c7] 34
  obtain ⟨W, hW⟩ : ∃ W, W = w7.alloc (Obj.cells #[.int .i64 ta.kind, .int .i64 ta.index, .int .i64 ta.type.kind, .slice B7 ta.type.args.length d7, .slice A7 ta.args.length c7] 34) := ⟨_, rfl⟩
  rw [← hW] at b8 z8 k8
  rw [← hW]
  have HTA := Lib.hid (show IsTm (· < W.heap.size) W ta _ from HT7.out.keep (fun b h => by have h' : b < w7.heap.size := h; omega) (fun p hp => by rw [hW]; exact World.cell?_alloc_lt _ _ _ hp))
  have HK := Lib.hid k8
  have HBW := Lib.hid b8
  clear b8 z8 k8 hW HT7 HT6 HZ7
  have HAB := Lib.hid (show ta.bulk ≤ 400000 by rw [HA.out]; decide)
  have GD := Lib.hid ((Below.refl W.heap.size W).drew)
  have HSK := Lib.hid fun (w1 : World) (h : Below W.heap.size W w1) => And.intro h (And.intro (HK.out.below h HK.out.lt).facts5.1 (And.intro (HK.out.below h HK.out.lt).facts5.2.1 (And.intro (HK.out.below h HK.out.lt).facts5.2.2.1 (And.intro (HK.out.below h HK.out.lt).facts5.2.2.2.1 (HK.out.below h HK.out.lt).facts5.2.2.2.2.1))))
  go_region_held3 (fun w' => Below W.heap.size W w' ∧ w'.cell? ⟨w7.heap.size, 0, none⟩ = some (.int .i64 ta.kind) ∧ w'.cell? ⟨w7.heap.size, 1, none⟩ = some (.int .i64 ta.index) ∧ w'.cell? ⟨w7.heap.size, 2, none⟩ = some (.int .i64 ta.type.kind) ∧ w'.cell? ⟨w7.heap.size, 3, none⟩ = some (.slice B7 ta.type.args.length d7) ∧ w'.cell? ⟨w7.heap.size, 4, none⟩ = some (.slice A7 ta.args.length c7))
    (first | with_reducible exact HSK.out _ GD.out | with_reducible exact HSK.out _ G14.out | with_reducible exact HSK.out _ Q14.out | with_reducible exact HSK.out _ G15.out | with_reducible exact HSK.out _ G16.out | go_keep)
    (first
      | (go_at_call 20
         (with_reducible refine (sameT_refl 400000 ta _ _ w15 HAB.out (Nat.le_refl _) (HTA.out.keep (fun b h => Nat.lt_of_lt_of_le h G15.out.size) (fun p hp => G15.out.cell hp)) T15.out).mono ?_)
         rintro e w16 ⟨rfl, hb16⟩
         have G16 := Lib.hid (show Below W.heap.size W w16 from G15.out.trans (hb16.mono G15.out.size))
         clear hb16)
      | (go_at_call 24
         (with_reducible refine (n_any 5 [tz] (.slice (some ⟨w14.heap.size, 0, none⟩) 1 1) (w14.alloc (Obj.cells #[.int .i64 tz.kind, .int .i64 tz.index, .int .i64 tz.type.kind, .slice B14 tz.type.args.length d14, .slice A14 tz.args.length c14] 34)) HZB.out S14.out).mono ?_)
         rintro e w15 ⟨v15, rfl, ht15, hb15⟩
         rw [HZ.out, ← HA.out] at ht15
         obtain ⟨B15, d15, A15, c15, rfl, _⟩ := ht15.form
         have G15 := Lib.hid (show Below W.heap.size W w15 from Q14.out.trans (hb15.mono Q14.out.size))
         have T15 := Lib.hid (show IsTm (· < w15.heap.size) w15 ta _ from IsTm.keep (fun b h => h.2) (fun _ _ => rfl) _ ht15)
         clear ht15 hb15)
      | (go_at_call 24
         (with_reducible refine (n_any 4 [] (.slice none 0 0) W.drew (by decide) (Rep.Sl.nil _ _)).mono ?_)
         rintro e w14 ⟨v14, rfl, ht14, hb14⟩
         obtain ⟨tz, htz⟩ : ∃ t, t = Tm.mk 4 0 .zero [] := ⟨_, rfl⟩
         rw [← htz] at ht14
         obtain ⟨B14, d14, A14, c14, rfl, _⟩ := ht14.form
         have HZ := Lib.hid htz
         have G14 := Lib.hid (show Below W.heap.size W w14 from (Below.refl W.heap.size W).drew.trans hb14)
         have Q14 := Lib.hid (G14.out.alloc G14.out.size (Obj.cells #[.int .i64 tz.kind, .int .i64 tz.index, .int .i64 tz.type.kind, .slice B14 tz.type.args.length d14, .slice A14 tz.args.length c14] 34))
         have S14 := Lib.hid (sl_new_tm (w := w14) (T := tz) (IsTm.keep (fun b h => h.2) (fun _ _ => rfl) _ ht14))
         have HZB := Lib.hid (show bulkAll [tz] ≤ 400000 by rw [htz]; decide)
         clear ht14 hb14 htz))
  go_wp2_with fail
  go_ret
  exact ⟨rfl, HBW.out.trans (G16.out.mono HBW.out.size)⟩
end Go.Proofs.YtnodebcbnfkioaaDoor
namespace Go.Proofs.YtnodebcbnfkioaaDoor
open Go.RowKit

/-- A term that is normal after m steps: what Normal returns for other limits. -/
theorem normal_again {x u : Tm} {m lim : Nat} (hs : Steps 0 (fun _ => false) m x u) (hu : u.next = none) {S : Nat → Prop} {w w' : World} {e : Ending} (h : NormalR S lim x w e w') :
    Below w.heap.size w w' ∧ ((m ≤ lim ∧ ∃ v', e = .returned (.tuple #[v', .int .i64 m, .int .i64 0]) ∧ IsTm (fun b => (S b ∨ w.heap.size ≤ b) ∧ b < w'.heap.size) w' u v') ∨
      (lim < m ∧ e = .returned (.tuple #[.agg #[.int .i64 0, .int .i64 0, .int .i64 0, .slice none 0 0, .slice none 0 0], .int .i64 0, .int .i64 5]))) := by
  obtain ⟨hb, h⟩ := h
  refine ⟨hb, ?_⟩
  rcases h with ⟨u2, m2, v', rfl, ht, hE⟩ | ⟨u2, m2, er, her, rfl, hE⟩
  · rcases hE.unique hs hu with ⟨_, rfl, rfl⟩ | ⟨h, _⟩
    · exact .inl ⟨hE.2.1, v', rfl, ht⟩
    · exact absurd h (by decide)
  · rcases hE.unique hs hu with ⟨h, _⟩ | ⟨rfl, _, hl⟩
    · rcases her with e | e <;> rw [e] at h <;> exact absurd h (by decide)
    · exact .inr ⟨hl, rfl⟩
theorem Ends.done {B lim n : Nat} {t u : Tm} (h : Ends B (fun _ => false) lim n t u 0) : u.next = none := by
  rcases h.2.2 with ⟨_, h | h⟩ | ⟨_, h | h⟩
  · exact h
  · cases h
  · exact absurd h.1 (by decide)
  · exact absurd h.1 (by decide)

end Go.Proofs.YtnodebcbnfkioaaDoor
namespace Go.Proofs.YtnodebcbnfkioaaDoor
open Go.ChangeShapes Go.WideShapes Go.ChangeAt Go.WideMaps Go.WideElems Go.RowKit

def laidTab : List (String × DataW Unit) := [("proofprograms/terms.arity", Rows.laid_proofprograms_terms_arity)]
theorem gArity : Tryd.prog.globalNamed "proofprograms/terms.arity" = some 0 := by kernel_rfl
theorem tArity : (Tryd.prog.globals[0]?).map (·.type) = some 141 := by kernel_rfl

/-- The door's own heap meets the condition. -/
theorem door_met (os : Os) (args : Array Value) : laidMetH Tryd.prog laidTab ((World.doorLaid Tryd.prog 400 os).forCall (fun _ _ => 0) ⟨#[], args, []⟩).memory :=
  laidMetH_of_parts3 (fuel := 8) (laidMet_of_run' 8 (by kernel_rfl) (by kernel_rfl)) (by kernel_rfl) (by kernel_rfl)

theorem tab_of_laid {W : World} (h : laidMetH Tryd.prog laidTab W) : Tab W := by
  rw [MakeChecks.laidMetH_plain _ _ _ (by kernel_rfl)] at h
  obtain ⟨ps, ⟨g0, t0, cs0, f0, p0, q0, hg0, ht0, hv0, hd0, _, _⟩, _, _⟩ := h
  obtain rfl := Option.some.inj (gArity.symm.trans hg0)
  obtain rfl := Option.some.inj (tArity.symm.trans ht0)
  obtain ⟨xs, m1, rfl, hx1, hlen, hn3, hel⟩ := DataW.trod_array Tryd.underlying141 hd0
  have c3 : Tryd.prog.cellsOf 3 = 1 := by kernel_rfl
  intro i u hu
  have hi : i < 14 := by
    have := (List.getElem?_eq_some_iff.1 hu).1
    exact this
  have h0 := hel i hi
  obtain ⟨x, hx⟩ : ∃ x, xs[i]? = some x := ⟨_, List.getElem?_eq_getElem (by omega)⟩
  rw [hx] at h0
  obtain ⟨k, e1, e2, _⟩ := DataW.trod_int Tryd.underlying3 h0
  subst e2
  rw [c3, Nat.mul_one] at e1
  have hc : cs0[i]? = some (.int .i64 k) := by
    have h1 : (List.take 1 (List.drop i cs0.toList))[0]? = some (.int .i64 k) := by rw [e1]; rfl
    simpa [List.getElem?_take, List.getElem?_drop] using h1
  have hlaid : Rows.laid_proofprograms_terms_arity (H := Unit) = .agg (arities.map fun (u : Nat) => .lit (.int .i64 (u : Int))) := rfl
  rw [hlaid] at hx1
  simp only [Prod.mk.injEq, DataW.agg.injEq] at hx1
  have h2 : (arities.map fun (u : Nat) => (DataW.lit (.int .i64 (u : Int)) : DataW Unit))[i]? = (xs.map (·.1))[i]? := by rw [hx1.1]
  rw [List.getElem?_map, List.getElem?_map, hu, hx] at h2
  simp only [Option.map_some, Option.some.injEq, DataW.lit.injEq, Lit.int.injEq, true_and] at h2
  rw [World.var?_cell hg0 hv0 i, hc, ← h2]

/-! What joinedFacts asks of the whole program, each alone: together they take more memory than a build may have. -/
theorem prog_enter : Tryd.pinned.checked.prog.mayEnter = true := by kernel_rfl
theorem prog_lifts : Tryd.pinned.checked.prog.liftsFinal = false := by kernel_rfl
theorem prog_make : Tryd.pinned.checked.prog.make = some .cut := by kernel_rfl
end Go.Proofs.YtnodebcbnfkioaaDoor
