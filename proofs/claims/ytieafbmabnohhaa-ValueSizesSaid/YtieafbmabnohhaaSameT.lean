/- The second form of Same on terms: a term and its copy. -/
import Derived.Test.YtieafbmabnohhaaRefSame
import Derived.Test.YtieafbmabnohhaaMakeT
import Derived.Deep.RegionHeld3
namespace Go.Proofs.Ytieafbmabnohhaa
open Go.RowKit

set_option maxRecDepth 100000 in
set_option maxHeartbeats 4000000 in
theorem sameT_refl (n : Nat) : ∀ (t : Tm) (u v : Value) (w : World), t.bulk ≤ n → n ≤ 400000 → IsTm (· < w.heap.size) w t u → IsTm (· < w.heap.size) w t v →
    Calls Try.prog 12 #[u, v] w fun e w' => e = .returned (.bool true) ∧ Below w.heap.size w w' := by
  induction n with
  | zero => intro t; have := bulk_pos t; omega
  | succ n ih =>
    rintro ⟨k, i, T, l⟩ u v w hn hb hu hv
    obtain ⟨B, d, A, c, rfl, hT, hl⟩ := hu.mk_parts
    obtain ⟨B', d', A', c', rfl, hT', hl'⟩ := hv.mk_parts
    have hll := bulkAll_len l
    simp only [Tm.bulk] at hn
    have IH := Lib.hid ih
    have HL := Lib.hid (And.intro hl hl')
    obtain ⟨b1, z1, k1⟩ := new_blk (Below.refl w.heap.size w) (Nat.le_refl _) #[.int .i64 k, .int .i64 i, .int .i64 T.kind, .slice B T.args.length d, .slice A l.length c] 37
    obtain ⟨b2, z2, k2⟩ := new_blk b1 b1.size #[.int .i64 k, .int .i64 i, .int .i64 T.kind, .slice B' T.args.length d', .slice A' l.length c'] 37
    have k1 := k1.alloc (Obj.cells #[.int .i64 k, .int .i64 i, .int .i64 T.kind, .slice B' T.args.length d', .slice A' l.length c'] 37)
    rw [z1] at k2 z2
    obtain ⟨W, hW⟩ : ∃ W, W = (w.alloc (Obj.cells #[.int .i64 k, .int .i64 i, .int .i64 T.kind, .slice B T.args.length d, .slice A l.length c] 37)).alloc (Obj.cells #[.int .i64 k, .int .i64 i, .int .i64 T.kind, .slice B' T.args.length d', .slice A' l.length c'] 37) := ⟨_, rfl⟩
    rw [← hW] at b2 z2 k1 k2
    have HTY := Lib.hid (And.intro (hT.boxed' b2) (hT'.boxed' b2))
    have hTn : T.nodes ≤ 400000 := by omega
    have HKK := Lib.hid (And.intro k1 (And.intro k2 b2))
    obtain ⟨p0, p1, p2, p3, p4, _⟩ := k1.facts5
    obtain ⟨s0, s1, s2, s3, s4, _⟩ := k2.facts5
    clear hu hv hT hT' hl hl' ih b1 z1 k1 k2
    go_enter Try.func12, Try.ntmps12
    go_wp2_with fail
    rw [← hW]
    clear hW
    refine (refSame_any 400000 T T _ _ W hTn (Nat.le_refl _) HTY.out.1 HTY.out.2 hTn).mono ?_
    rintro e W1 ⟨rfl, hbW⟩
    rw [eqb_self]
    have HBW := Lib.hid hbW
    have HK2 := Lib.hid (And.intro (HKK.out.1.below hbW HKK.out.1.lt) (And.intro (HKK.out.2.1.below hbW HKK.out.2.1.lt) (HKK.out.2.2.trans (hbW.mono HKK.out.2.2.size))))
    obtain ⟨_, _, _, _, q4, _⟩ := HK2.out.1.facts5
    obtain ⟨_, _, _, _, r4, _⟩ := HK2.out.2.1.facts5
    clear hbW p0 p1 p2 p3 p4 s0 s1 s2 s3 s4
    go_wp2_with fail
    go_loopw [38] (fun ix wr => ∃ j : Nat, j ≤ l.length ∧ ix = .int .i64 j ∧ Below W1.heap.size W1 wr) (fun ix _ => l.length - (intOf ix).toNat)
    case atStart => exact ⟨0, by omega, rfl, Below.refl _ _⟩
    case round =>
      obtain ⟨j, hj, rfl, hbel⟩ := hrel
      have hws := hbel.size
      have hB2 : Below w.heap.size w wr := HK2.out.2.2.trans (hbel.mono HK2.out.2.2.size)
      by_cases hlt : j < l.length
      · have hl1 : TmR.Sl (· < w.heap.size) wr l (.slice A l.length c) := HL.out.1.keep (fun _ h => h) (fun p hp => hB2.cell hp)
        have hm1 : TmR.Sl (· < w.heap.size) wr l (.slice A' l.length c') := HL.out.2.keep (fun _ h => h) (fun p hp => hB2.cell hp)
        obtain ⟨a, rfl, ha, hat⟩ := hl1.get j hlt
        obtain ⟨a', rfl, ha', hat'⟩ := hm1.get j hlt
        obtain ⟨B1, d1, A1, c1, q0, q1, q2, q3, q4', hx⟩ := at_tm hat
        obtain ⟨B2, d2, A2, c2, r0, r1, r2, r3, r4', hy⟩ := at_tm hat'
        simp only [show TmR.n = 5 from rfl] at q0 q1 q2 q3 q4' r0 r1 r2 r3 r4'
        have hnj := bulkAll_get l j hlt
        have hab : (a.add (j * 5)).block < w.heap.size := by rw [add_block]; exact ha
        have hab' : (a'.add (j * 5)).block < w.heap.size := by rw [add_block]; exact ha'
        have hwz := hB2.size
        have k1 := HK2.out.1.below hbel HK2.out.1.lt
        have k2 := HK2.out.2.1.below hbel HK2.out.2.1.lt
        have HSK := Lib.hid fun (w1 : World) (h : Below wr.heap.size wr w1) => And.intro (k1.below h k1.lt).facts5.2.2.2.2.1 (And.intro (k2.below h k2.lt).facts5.2.2.2.2.1
          (And.intro ((h.cell (p := a.add (j * 5)) (by omega)).trans q0) (And.intro ((h.cell (p := ⟨(a.add (j * 5)).block, (a.add (j * 5)).off + 1, none⟩) (by show (a.add (j * 5)).block < _; omega)).trans q1)
            (And.intro ((h.cell (p := ⟨(a.add (j * 5)).block, (a.add (j * 5)).off + 2, none⟩) (by show (a.add (j * 5)).block < _; omega)).trans q2) (And.intro ((h.cell (p := ⟨(a.add (j * 5)).block, (a.add (j * 5)).off + 3, none⟩) (by show (a.add (j * 5)).block < _; omega)).trans q3)
              (And.intro ((h.cell (p := ⟨(a.add (j * 5)).block, (a.add (j * 5)).off + 4, none⟩) (by show (a.add (j * 5)).block < _; omega)).trans q4')
          (And.intro ((h.cell (p := a'.add (j * 5)) (by omega)).trans r0) (And.intro ((h.cell (p := ⟨(a'.add (j * 5)).block, (a'.add (j * 5)).off + 1, none⟩) (by show (a'.add (j * 5)).block < _; omega)).trans r1)
            (And.intro ((h.cell (p := ⟨(a'.add (j * 5)).block, (a'.add (j * 5)).off + 2, none⟩) (by show (a'.add (j * 5)).block < _; omega)).trans r2) (And.intro ((h.cell (p := ⟨(a'.add (j * 5)).block, (a'.add (j * 5)).off + 3, none⟩) (by show (a'.add (j * 5)).block < _; omega)).trans r3)
              ((h.cell (p := ⟨(a'.add (j * 5)).block, (a'.add (j * 5)).off + 4, none⟩) (by show (a'.add (j * 5)).block < _; omega)).trans r4')))))))))))
        have ARM := Lib.hid (show Calls Try.prog 12 #[.agg #[.int .i64 l[j].kind, .int .i64 l[j].index, .int .i64 l[j].type.kind, .slice B1 l[j].type.args.length d1, .slice A1 l[j].args.length c1],
            .agg #[.int .i64 l[j].kind, .int .i64 l[j].index, .int .i64 l[j].type.kind, .slice B2 l[j].type.args.length d2, .slice A2 l[j].args.length c2]] wr.drew fun e w' => e = .returned (.bool true) ∧ Below wr.heap.size wr w' by
          refine (IH.out l[j] _ _ wr.drew (by omega) (by omega) (hx.keep (fun b h => Nat.lt_of_lt_of_le h hwz) (fun p _ => World.cell?_drew _ p)) (hy.keep (fun b h => Nat.lt_of_lt_of_le h hwz) (fun p _ => World.cell?_drew _ p))).mono ?_
          rintro e w1 ⟨h1, h2⟩
          exact ⟨h1, ((Below.refl _ wr).drew).trans h2⟩)
        obtain ⟨m0, m1, _⟩ := HSK.out wr (Below.refl _ _)
        have HBL := Lib.hid hbel
        clear hl1 hm1 hat hat' hx hy k1 k2 q0 q1 q2 q3 q4' r0 r1 r2 r3 r4' hbel hB2
        go_wp2_with fail
        go_region_held3 (fun w' => w'.cell? ⟨w.heap.size, 4, none⟩ = some (.slice (some a) l.length c) ∧ w'.cell? ⟨w.heap.size + 1, 4, none⟩ = some (.slice (some a') l.length c') ∧
            w'.cell? (a.add (j * 5)) = some (.int .i64 l[j].kind) ∧ w'.cell? ⟨(a.add (j * 5)).block, (a.add (j * 5)).off + 1, none⟩ = some (.int .i64 l[j].index) ∧ w'.cell? ⟨(a.add (j * 5)).block, (a.add (j * 5)).off + 2, none⟩ = some (.int .i64 l[j].type.kind) ∧
            w'.cell? ⟨(a.add (j * 5)).block, (a.add (j * 5)).off + 3, none⟩ = some (.slice B1 l[j].type.args.length d1) ∧ w'.cell? ⟨(a.add (j * 5)).block, (a.add (j * 5)).off + 4, none⟩ = some (.slice A1 l[j].args.length c1) ∧
            w'.cell? (a'.add (j * 5)) = some (.int .i64 l[j].kind) ∧ w'.cell? ⟨(a'.add (j * 5)).block, (a'.add (j * 5)).off + 1, none⟩ = some (.int .i64 l[j].index) ∧ w'.cell? ⟨(a'.add (j * 5)).block, (a'.add (j * 5)).off + 2, none⟩ = some (.int .i64 l[j].type.kind) ∧
            w'.cell? ⟨(a'.add (j * 5)).block, (a'.add (j * 5)).off + 3, none⟩ = some (.slice B2 l[j].type.args.length d2) ∧ w'.cell? ⟨(a'.add (j * 5)).block, (a'.add (j * 5)).off + 4, none⟩ = some (.slice A2 l[j].args.length c2))
          (first | with_reducible exact HSK.out _ (Below.refl _ _).drew | with_reducible exact HSK.out _ HB1.out | go_keep)
          (first
            | (go_at_call 12
               (with_reducible refine ARM.out.mono ?_)
               rintro e w1 ⟨rfl, hb1⟩
               have HB1 := Lib.hid hb1
               clear hb1))
        go_wp2_with fail
        exact ⟨⟨j + 1, by omega, by go_num, HBL.out.trans (HB1.out.mono hws)⟩, by simp [intOf]; omega⟩
      · have hjl : j = l.length := by omega
        subst hjl
        clear hbel
        go_wp2_with fail
        go_ret
        exact ⟨rfl, hB2⟩
end Go.Proofs.Ytieafbmabnohhaa
