/- value.Term of a made value. -/
import Derived.Test.YtieafbmabnohhaaValPair
namespace Go.Proofs.Ytieafbmabnohhaa
open Go.RowKit

/-- The term, and no error. -/
def TermR0 (w : World) (t : Tm) (e : Ending) (w' : World) : Prop :=
  ∃ v, e = .returned (.tuple #[v, .int .i64 0]) ∧ IsTm (fun b => w.heap.size ≤ b ∧ b < w'.heap.size) w' t v ∧ Below w.heap.size w w'
theorem small_err {V : Va} {k : Nat} (h : SmallV V k) (hk : k ≤ 64) : V.err = 0 := by
  have := h.nodes
  unfold Va.err
  rw [if_pos h.ok, if_pos (by omega)]

set_option maxRecDepth 100000 in
set_option maxHeartbeats 1000000 in
theorem valueTerm_made {T : Ty} {V : Va} (h : MadeV T V) (v : Value) (w : World) (hv : IsVa (· < w.heap.size) w V v) :
    Calls Try.prog 9 #[v] w (TermR0 w V.term) := by
  have hs := madeV_small h
  have he := small_err hs (by decide)
  obtain ⟨B, d, A, c, rfl⟩ := hv.form
  obtain ⟨W, hW, hbW, hz, k0, k1⟩ := box_vt w (.int .i64 V.kind) (.int .i64 V.num) (.slice B V.list.length d) (.slice A V.args.length c) (.int .i64 0) (.int .i64 0) (.int .i64 0) (.slice none 0 0) (.slice none 0 0)
  have hv0 : IsVa (· < w.heap.size) W V (.agg #[.int .i64 V.kind, .int .i64 V.num, .slice B V.list.length d, .slice A V.args.length c]) := IsVa.keep (fun _ h => h) (fun p hp => hbW.cell hp) _ hv
  have hw0 := hs.pos
  have hw1 := hs.weight
  obtain ⟨r0, r1, r2, r3, _⟩ := k0.facts4
  have HV := Lib.hid fun (w1 : World) (h : Below W.heap.size W w1) => And.intro (show IsVa (· < w1.heap.size) w1 V _ from IsVa.keep (fun b hb => by have h1 := h.size; have h2 := hbW.size; have h3 : b < w.heap.size := hb; omega) (fun p hp => h.cell (by have h2 := hbW.size; have h3 : p.block < w.heap.size := hp; omega)) _ hv0) (k0.below h k0.lt).facts4
  have HB := Lib.hid (And.intro hbW (And.intro hz k1))
  have HS := Lib.hid (And.intro h (And.intro hs he))
  clear hv hv0 k0 k1 hz h hs he
  go_enter Try.func9, Try.ntmps9
  go_wp2_with fail
  rw [← hW]
  clear hW
  refine (checkV_any V _ W (by have := HS.out.2.1.bulk; omega) HS.out.2.1.ok (HV.out W (Below.refl _ _)).1).mono ?_
  rintro e w1 ⟨rfl, hb1⟩
  rw [HS.out.2.2]
  obtain ⟨_, s0, s1, s2, s3, _⟩ := HV.out w1 hb1
  go_wp2_with fail
  refine (sizeV_any 400000 V _ w1 (by have := HS.out.2.1.bulk; omega) (Nat.le_refl _) HS.out.2.1.ok (HV.out w1 hb1).1).mono ?_
  rintro e w2 ⟨rfl, hb2⟩
  have hb12 := hb1.trans (hb2.mono hb1.size)
  obtain ⟨_, t0, t1, t2, t3, _⟩ := HV.out w2 hb12
  have hgt : decide (4096 < V.weight) = false := by simp; omega
  have HB12 := Lib.hid hb12
  clear hb1 hb2 hb12 s0 s1 s2 s3
  go_wp2_with fail
  refine (termV_made HS.out.1 _ w2 (HV.out w2 HB12.out).1).mono ?_
  rintro e w3 ⟨v3, rfl, ht3, hb3⟩
  obtain ⟨D3, e3, E3, f3', rfl, _⟩ := ht3.form
  have hz2 := HB12.out.size
  have hz0 := HB.out.2.1
  have k3 := (HB.out.2.2.below HB12.out HB.out.2.2.lt).below hb3 (by omega)
  obtain ⟨_, _, _, _, _, f0, f1, f2, f3, f4⟩ := k3.facts5
  have HT3 := Lib.hid (And.intro ht3 hb3)
  clear ht3 hb3
  go_wp2_with fail
  obtain ⟨z0, z1, z2, z3, z4⟩ := (k3.set5 (.int .i64 V.term.kind) (.int .i64 V.term.index) (.int .i64 V.term.type.kind) (.slice D3 V.term.type.args.length e3) (.slice E3 V.term.args.length f3')).cells5
  refine bodyPost_ret (v := .tuple #[.agg #[.int .i64 V.term.kind, .int .i64 V.term.index, .int .i64 V.term.type.kind, .slice D3 V.term.type.args.length e3, .slice E3 V.term.args.length f3'], .int .i64 0]) (by simp [results, Try.results9, go_sem, z0, z1, z2, z3, z4]) rfl ?_
  have hs3 := HT3.out.2.size
  obtain ⟨v4, e4, ht4, hb4⟩ := term_endV (w := w) (w2 := w3) (HB.out.1.trans ((HB12.out.trans (HT3.out.2.mono hz2)).mono HB.out.1.size)) (by omega) (HT3.out.1.keep (fun b h => ⟨by omega, h.2⟩) (fun _ _ => rfl))
  cases e4
  exact ⟨_, rfl, ht4, hb4⟩
end Go.Proofs.Ytieafbmabnohhaa
