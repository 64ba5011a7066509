/- reduce.walk's step. -/
import Derived.Test.YtifijgihcincfaaDoorPackBec
import Derived.Test.YtifijgihcincfaaDoorPackRed
namespace Go.Proofs.YtifijgihcincfaaDoor
open Go.RowKit

theorem Tab.turn {X : Nat → Prop} {w w' : World} (h : Tab w) (ht : Turn X w w') (hx : ¬ X 0) : Tab w' := fun i u hu => ht.cellv (h i u hu) h.lt hx

theorem Blk.turn {X : Nat → Prop} {w w' : World} {q : Nat} {t : TypeId} {cs : Array Value} (h : Blk w q t cs) (ht : Turn X w w') (hx : ¬ X q) : Blk w' q t cs := h.carry (ht.block q h.lt hx)

/-- The walk's own cells: the steps that are permitted, those done, the nodes, the error. -/
def WalkAt (w : World) (Q : Nat) (lim n : Nat) (N er : Int) : Prop := Blk w Q 103 #[.int .i64 lim, .int .i64 n, .int .i64 N, .bool false, .int .i64 er]

def StepW (S : Nat → Prop) (Q lim B n : Nat) (t : Tm) (w : World) (e : Ending) (w' : World) : Prop :=
  ∃ (u : Tm) (v' : Value) (n' : Nat) (N' er : Int), e = .returned v' ∧ IsTm (fun b => (S b ∨ w.heap.size ≤ b) ∧ b < w'.heap.size) w' u v' ∧ WalkAt w' Q lim n' N' er ∧ Turn (· = Q) w w' ∧ Out lim B n t u n' N' er

/-- The result of step is stored. -/
theorem step_end {S : Nat → Prop} {Q lim B n n' lo : Nat} {t u : Tm} {N' er : Int} {w W : World} {x0 x1 x2 x3 x4 : Value} (hS : ∀ b, S b → b < w.heap.size) (hQ : Q < w.heap.size) (hk : WalkAt W Q lim n' N' er) (ht : Turn (· = Q) w W) (hlo : w.heap.size + 2 ≤ lo)
    (hu : IsTm (fun b => (S b ∨ lo ≤ b) ∧ b < W.heap.size) W u (.agg #[x0, x1, x2, x3, x4])) (ho : Out lim B n t u n' N' er) :
    StepW S Q lim B n t w (.returned (.agg #[x0, x1, x2, x3, x4])) (((((W.setCell ⟨w.heap.size + 1, 0, none⟩ x0).setCell ⟨w.heap.size + 1, 1, none⟩ x1).setCell ⟨w.heap.size + 1, 2, none⟩ x2).setCell ⟨w.heap.size + 1, 3, none⟩ x3).setCell ⟨w.heap.size + 1, 4, none⟩ x4) := by
  have hg := only_set5 W (w.heap.size + 1) x0 x1 x2 x3 x4
  refine ⟨u, _, n', N', er, rfl, IsTm.keep (fun b h => ⟨h.1.imp id (fun x => by omega), Nat.lt_of_lt_of_le h.2 hg.size⟩) (fun p hp => World.cell?_of_block (hg.block p.block hp.2 (fun e => ?_))) _ hu, ?_, ?_, ho⟩
  · have e' : p.block = w.heap.size + 1 := by simpa using e
    exact hp.1.elim (fun h => by have := hS _ h; omega) (fun h => by omega)
  · exact Blk.grown hk hg (by simp; omega)
  · exact ⟨hg.os.trans ht.os, hg.tape.trans ht.tape, hg.output.trans ht.output, Nat.le_trans ht.size hg.size, fun k hk hx => (hg.block k (Nat.lt_of_lt_of_le hk ht.size) (by simp; omega)).trans (ht.block k hk hx)⟩

set_option maxRecDepth 100000 in
set_option maxHeartbeats 4000000 in
theorem step_any (t : Tm) (v : Value) (S : Nat → Prop) (Q lim B n : Nat) (w : World) (hok : t.ok = true) (hr : t.redex = true) (hB : B + t.size ≤ 4096) (hlow : t.low 530000000 = true) (hlim : lim ≤ 1000) (hn : n ≤ lim) (htab : Tab w) (hS : ∀ b, S b → b < w.heap.size) (hSQ : ∀ b, S b → b ≠ Q)
    (hw : WalkAt w Q lim n ((B + t.size : Nat) : Int) 0) (hT : IsTm S w t v) :
    Calls Tryd.prog 92 #[.pointer (some ⟨Q, 0, none⟩), v] w (StepW S Q lim B n t w) := by
  obtain ⟨Bt, d, A, c, rfl, _⟩ := IsTm.form hT
  have hbk := ok_bulk hok
  have hQ := Blk.lt hw
  have HF := Lib.hid (And.intro hok (And.intro hr hlow))
  clear hok hr hlow
  go_enter Tryd.func92, Tryd.ntmps92
  go_upto_region 1 with fail
  obtain ⟨W, hW, bW, zW, k0, k1⟩ := alloc2_facts w #[.int .i64 t.kind, .int .i64 t.index, .int .i64 t.type.kind, .slice Bt t.type.args.length d, .slice A t.args.length c] #[.int .i64 0, .int .i64 0, .int .i64 0, .slice none 0 0, .slice none 0 0] 34 34
  rw [← hW]
  have kQ : Blk W Q 103 #[.int .i64 lim, .int .i64 n, .int .i64 ((B + t.size : Nat) : Int), .bool false, .int .i64 0] := Blk.below hw bW hQ
  have q0 := fun m => (kQ.drewN m).facts5.1
  have q1 := fun m => (kQ.drewN m).facts5.2.1
  have HW := Lib.hid (And.intro bW (And.intro zW (And.intro k0 (And.intro k1 kQ))))
  have HT := Lib.hid hT
  have HS := Lib.hid (And.intro hS hSQ)
  have HTab := Lib.hid htab
  clear hW bW zW k0 k1 kQ hT hS hSQ htab hw
  have hnl : ((n : Int) == (lim : Int)) = decide (n = lim) := by rw [Bool.eq_iff_iff]; simp; omega
  by_cases he : n = lim
  · subst he
    have e1 : ((n : Int) == (n : Int)) = true := by simp
    clear hnl
    go_quiet (fail)
    have HV := Lib.hid (And.intro (below_drewN HW.out.1 nq) (And.intro (show (W.drewN nq).heap.size = w.heap.size + 2 from HW.out.2.1) (And.intro (HW.out.2.2.1.drewN nq) (And.intro (HW.out.2.2.2.1.drewN nq) (HW.out.2.2.2.2.drewN nq)))))
    generalize W.drewN nq = V at HV ⊢
    clear q0 q1
    obtain ⟨bV, zV, k0, k1, kQ⟩ := HV.out
    have zW := HW.out.2.1
    obtain ⟨r0, r1, r2, r3, r4, _, _, _, _, _⟩ := k0.facts5
    obtain ⟨_, _, _, _, _, f0, f1, f2, f3, f4⟩ := k1.facts5
    obtain ⟨w0, w1, w2, w3, w4, g0, g1, g2, g3, g4⟩ := kQ.facts5
    have kQ' : Blk (V.setCell ⟨Q, 4, none⟩ (.int .i64 5)) Q 103 #[.int .i64 n, .int .i64 n, .int .i64 ((B + t.size : Nat) : Int), .bool false, .int .i64 5] := by simpa using kQ.set_ 4 (.int .i64 5)
    have k0' := k0.far (p := ⟨Q, 4, none⟩) (show w.heap.size ≠ Q by omega) (.int .i64 5)
    have k1' := k1.far (p := ⟨Q, 4, none⟩) (show w.heap.size + 1 ≠ Q by omega) (.int .i64 5)
    have hs : Turn (· = Q) V (V.setCell ⟨Q, 4, none⟩ (.int .i64 5)) := Turn.setCell V ⟨Q, 4, none⟩ (.int .i64 5) rfl
    have HE := Lib.hid (And.intro kQ' (And.intro ((Turn.call (X := (· = Q)) bV).trans hs) (IsTm.keep (S' := fun b => (S b ∨ w.heap.size + 2 ≤ b) ∧ b < (V.setCell ⟨Q, 4, none⟩ (.int .i64 5)).heap.size) (fun b h => ⟨.inl h, by have h1 := HS.out.1 b h; have h2 := bV.size; have h3 := hs.size; omega⟩) (fun p hp => (World.cell?_of_block (hs.block p.block (by have h1 := HS.out.1 _ hp; have h2 := bV.size; omega) (HS.out.2 _ hp))).trans (bV.cell (HS.out.1 _ hp))) _ HT.out)))
    have HK := Lib.hid (And.intro k0' k1')
    clear bV zV zW k0 k1 kQ kQ' k0' k1' hs
    go_upto_region 3 with fail
    obtain ⟨k0', k1'⟩ := HK.out
    generalize V.setCell ⟨Q, 4, none⟩ (.int .i64 5) = V2 at HE k0' k1' ⊢
    obtain ⟨s0, s1, s2, s3, s4, _, _, _, _, _⟩ := k0'.facts5
    obtain ⟨_, _, _, _, _, f0', f1', f2', f3', f4'⟩ := k1'.facts5
    have K1 := Lib.hid k1'
    clear HK k0' k1' r0 r1 r2 r3 r4 f0 f1 f2 f3 f4 w0 w1 w2 w3 w4 g0 g1 g2 g3 g4
    go_wp2_with fail
    obtain ⟨y0, y1, y2, y3, y4⟩ := (K1.out.set5 (.int .i64 t.kind) (.int .i64 t.index) (.int .i64 t.type.kind) (.slice Bt t.type.args.length d) (.slice A t.args.length c)).cells5
    exact bodyPost_ret (v := .agg #[.int .i64 t.kind, .int .i64 t.index, .int .i64 t.type.kind, .slice Bt t.type.args.length d, .slice A t.args.length c]) (by simp [results, Tryd.results92, go_sem, y0, y1, y2, y3, y4]) rfl
      (step_end HS.out.1 hQ HE.out.1 HE.out.2.1 (Nat.le_refl _) HE.out.2.2 (.inl ⟨rfl, rfl, rfl, rfl⟩))
  · have e1 : ((n : Int) == (lim : Int)) = false := by rw [hnl]; simpa using he
    have hlt : n < lim := by omega
    clear hnl he
    go_quiet (fail)
    have HV := Lib.hid (And.intro (below_drewN HW.out.1 nq) (And.intro (show (W.drewN nq).heap.size = w.heap.size + 2 from HW.out.2.1) (And.intro (HW.out.2.2.1.drewN nq) (And.intro (HW.out.2.2.2.1.drewN nq) (HW.out.2.2.2.2.drewN nq)))))
    generalize W.drewN nq = V at HV ⊢
    clear q0 q1
    obtain ⟨bV, zV, k0, k1, kQ⟩ := HV.out
    have zW := HW.out.2.1
    obtain ⟨r0, r1, r2, r3, r4, _, _, _, _, _⟩ := k0.facts5
    obtain ⟨_, _, _, _, _, f0, f1, f2, f3, f4⟩ := k1.facts5
    obtain ⟨w0, w1, w2, w3, w4, g0, g1, g2, g3, g4⟩ := kQ.facts5
    have HQ := Lib.hid (And.intro bV (And.intro zV (And.intro k0 (And.intro k1 kQ))))
    have hlb : t.low 536870912 = true := low_mono (by omega) t HF.out.2.2
    have HLB := Lib.hid hlb
    clear hlb bV zV zW k0 k1 kQ
    go_wp2_with fail
    refine (becomes_any t _ S V HF.out.1 HF.out.2.1 (by omega) HLB.out (HTab.out.after HV.out.1) (fun b h => by have h1 := HS.out.1 b h; have h2 := HV.out.1.size; omega) (IsTm.keep (fun _ h => h) (fun p hp => HV.out.1.cell (HS.out.1 _ hp)) _ HT.out)).mono ?_
    rintro e w5 ⟨pk, pi, ptk, pB, pA, pn, pd, pm, pc, er, rfl, r5, h5⟩
    have H5 := Lib.hid h5
    have R5 := Lib.hid r5
    have hz5 := r5.size
    obtain ⟨v0, v1, v2, v3, v4, _, _, _, _, _⟩ := (HQ.out.2.2.1.below r5 HQ.out.2.2.1.lt).facts5
    obtain ⟨_, _, _, _, _, d0, d1, d2, d3, d4⟩ := (HQ.out.2.2.2.1.below r5 HQ.out.2.2.2.1.lt).facts5
    obtain ⟨x0, x1, x2, x3, x4, c0, c1, c2, c3, c4⟩ := (HQ.out.2.2.2.2.below r5 HQ.out.2.2.2.2.lt).facts5
    clear h5 r5 r0 r1 r2 r3 r4 f0 f1 f2 f3 f4 w0 w1 w2 w3 w4 g0 g1 g2 g3 g4
    by_cases her : er = 0
    · subst her
      have hu := (H5.out.resolve_right (fun h => absurd h.1 (by decide))).2
      have hred := red_of HF.out.1 HF.out.2.1
      have HU := Lib.hid (And.intro (hred.ok HF.out.1) (And.intro (hred.low (n := 530000000) (by omega) HF.out.2.2) hu))
      have hus := hu.1
      have huz := size_bulk t.becomes
      have hub := ok_bulk (hred.ok HF.out.1)
      clear hred hu
      go_upto_region 11 with fail
      obtain ⟨b6, z6, k6⟩ := new_blk (Below.refl w5.heap.size w5) (Nat.le_refl _) #[.int .i64 pk, .int .i64 pi, .int .i64 ptk, .slice pB pn pd, .slice pA pm pc] 34
      have h6 : Below V.heap.size V (w5.alloc (Obj.cells #[.int .i64 pk, .int .i64 pi, .int .i64 ptk, .slice pB pn pd, .slice pA pm pc] 34)) := R5.out.trans (b6.mono R5.out.size)
      generalize w5.alloc (Obj.cells #[.int .i64 pk, .int .i64 pi, .int .i64 ptk, .slice pB pn pd, .slice pA pm pc] 34) = W6 at b6 z6 k6 h6 ⊢
      have B6 := Lib.hid b6
      have K6 := Lib.hid k6
      have H6 := Lib.hid h6
      have hz6 := h6.size
      clear b6 k6 h6 v0 v1 v2 v3 v4 d0 d1 d2 d3 d4 x0 x1 x2 x3 x4 c0 c1 c2 c3 c4
      have CELLS := Lib.hid fun (w' : World) (h : Below W6.heap.size W6 w') => And.intro (HQ.out.2.2.1.below (H6.out.trans (h.mono hz6)) HQ.out.2.2.1.lt) (And.intro (HQ.out.2.2.2.1.below (H6.out.trans (h.mono hz6)) HQ.out.2.2.2.1.lt) (And.intro (K6.out.below h K6.out.lt) (HQ.out.2.2.2.2.below (H6.out.trans (h.mono hz6)) HQ.out.2.2.2.2.lt)))
      have hwV : w.heap.size + 2 ≤ V.heap.size := by have := HQ.out.2.1; omega
      obtain ⟨v0, v1, v2, v3, v4, _, _, _, _, _⟩ := (CELLS.out W6 (Below.refl _ _)).1.facts5
      go_wp2_with fail
      refine (measure_any t.bulk t _ W6 (Nat.le_refl _) (by omega) HF.out.1 (low_mono (by omega) t HF.out.2.2) (IsTm.keep (fun b h => by have h1 := HS.out.1 b h; omega) (fun p hp => (H6.out.cell (by have h1 := HS.out.1 _ hp; omega)).trans (HQ.out.1.cell (HS.out.1 _ hp))) _ HT.out)).mono ?_
      rintro e w7 ⟨rfl, r7⟩
      have R7 := Lib.hid r7
      have hz7 := r7.size
      clear r7 v0 v1 v2 v3 v4
      obtain ⟨v0, v1, v2, v3, v4, _, _, _, _, _⟩ := (CELLS.out w7 R7.out).2.2.1.facts5
      go_wp2_with fail
      refine (measure_any t.becomes.bulk t.becomes _ w7 (Nat.le_refl _) (by omega) HU.out.1 (low_mono (by omega) _ HU.out.2.1) (IsTm.keep (fun b h => by have h2 := h.2; omega) (fun p hp => (R7.out.cell (by have h2 := hp.2; omega)).trans (B6.out.cell hp.2)) _ HU.out.2.2.2)).mono ?_
      rintro e w8 ⟨rfl, r8⟩
      have R8 := Lib.hid (R7.out.trans (r8.mono hz7))
      have hz8 := r8.size
      clear r8 v0 v1 v2 v3 v4
      obtain ⟨v0, v1, v2, v3, v4, _, _, _, _, _⟩ := (CELLS.out w8 R8.out).1.facts5
      obtain ⟨_, _, _, _, _, d0, d1, d2, d3, d4⟩ := (CELLS.out w8 R8.out).2.1.facts5
      obtain ⟨y0, y1, y2, y3, y4, _, _, _, _, _⟩ := (CELLS.out w8 R8.out).2.2.1.facts5
      obtain ⟨x0, x1, x2, x3, x4, c0, c1, c2, c3, c4⟩ := (CELLS.out w8 R8.out).2.2.2.facts5
      have hs0 := size_bulk t
      clear v0 v1 v2 v3 v4 d0 d1 d2 d3 d4 y0 y1 y2 y3 y4
      go_upto_region 14 with fail
      obtain ⟨N2, hN2⟩ : ∃ N2 : Int, N2 = (B : Int) + (t.size : Int) + ((t.becomes.size : Int) - (t.size : Int)) := ⟨_, rfl⟩
      rw [← hN2]
      have QA := Lib.hid (by simpa using (CELLS.out w8 R8.out).2.2.2.set_ 2 (.int .i64 N2) : Blk (w8.setCell ⟨Q, 2, none⟩ (.int .i64 N2)) Q 103 #[.int .i64 lim, .int .i64 n, .int .i64 N2, .bool false, .int .i64 0])
      have HL := Lib.hid (And.intro ((CELLS.out w8 R8.out).1.far (p := ⟨Q, 2, none⟩) (show w.heap.size ≠ Q by omega) (.int .i64 N2)) (And.intro ((CELLS.out w8 R8.out).2.1.far (p := ⟨Q, 2, none⟩) (show w.heap.size + 1 ≠ Q by omega) (.int .i64 N2)) (And.intro ((CELLS.out w8 R8.out).2.2.1.far (p := ⟨Q, 2, none⟩) (show w5.heap.size ≠ Q by omega) (.int .i64 N2)) (Turn.setCell (X := (· = Q)) w8 ⟨Q, 2, none⟩ (.int .i64 N2) rfl))))
      have TT := Lib.hid (show Turn (· = Q) w w8 from Turn.call (HQ.out.1.trans ((H6.out.trans (R8.out.mono hz6)).mono HQ.out.1.size)))
      have TU := Lib.hid (show IsTm (fun b => (S b ∨ V.heap.size ≤ b) ∧ b < w5.heap.size) w8 t.becomes (.agg #[.int .i64 pk, .int .i64 pi, .int .i64 ptk, .slice pB pn pd, .slice pA pm pc]) from IsTm.keep (fun _ h => h) (fun p hp => (R8.out.cell (by have h2 := hp.2; omega)).trans (B6.out.cell hp.2)) _ HU.out.2.2.2)
      clear x0 x1 x2 x3 x4 c0 c1 c2 c3 c4
      generalize w8.setCell ⟨Q, 2, none⟩ (.int .i64 N2) = W9 at QA HL ⊢
      obtain ⟨x0, x1, x2, x3, x4, c0, c1, c2, c3, c4⟩ := QA.out.facts5
      have hz9 := HL.out.2.2.2.size
      have T9 := Lib.hid (TT.out.trans HL.out.2.2.2)
      by_cases hbig : N2 > 4096
      · have e1 : decide (N2 > 4096) = true := decide_eq_true hbig
        have QF := Lib.hid (by simpa using QA.out.set_ 4 (.int .i64 4) : Blk (W9.setCell ⟨Q, 4, none⟩ (.int .i64 4)) Q 103 #[.int .i64 lim, .int .i64 n, .int .i64 N2, .bool false, .int .i64 4])
        have HM := Lib.hid (And.intro (HL.out.1.far (p := ⟨Q, 4, none⟩) (show w.heap.size ≠ Q by omega) (.int .i64 4)) (And.intro (HL.out.2.1.far (p := ⟨Q, 4, none⟩) (show w.heap.size + 1 ≠ Q by omega) (.int .i64 4)) (Turn.setCell (X := (· = Q)) W9 ⟨Q, 4, none⟩ (.int .i64 4) rfl)))
        go_upto_region 16 with fail
        generalize W9.setCell ⟨Q, 4, none⟩ (.int .i64 4) = W10 at QF HM ⊢
        obtain ⟨v0, v1, v2, v3, v4, _, _, _, _, _⟩ := HM.out.1.facts5
        obtain ⟨_, _, _, _, _, d0, d1, d2, d3, d4⟩ := HM.out.2.1.facts5
        clear x0 x1 x2 x3 x4 c0 c1 c2 c3 c4
        go_wp2_with fail
        obtain ⟨y0, y1, y2, y3, y4⟩ := (HM.out.2.1.set5 (.int .i64 t.kind) (.int .i64 t.index) (.int .i64 t.type.kind) (.slice Bt t.type.args.length d) (.slice A t.args.length c)).cells5
        have hTn : Turn (· = Q) w W10 := T9.out.trans HM.out.2.2
        exact bodyPost_ret (v := .agg #[.int .i64 t.kind, .int .i64 t.index, .int .i64 t.type.kind, .slice Bt t.type.args.length d, .slice A t.args.length c]) (by simp [results, Tryd.results92, go_sem, y0, y1, y2, y3, y4]) rfl
          (step_end HS.out.1 hQ QF.out hTn (Nat.le_refl _) (IsTm.keep (fun b h => ⟨.inl h, by have h1 := HS.out.1 b h; have h2 := hTn.size; omega⟩) (fun p hp => World.cell?_of_block (hTn.block p.block (HS.out.1 _ hp) (HS.out.2 _ hp))) _ HT.out) (.inr (.inr ⟨rfl, hlt, rfl, rfl, by omega⟩)))
      · have e1 : decide (N2 > 4096) = false := decide_eq_false hbig
        have Q1 := Lib.hid (by simpa using QA.out.set_ 1 (.int .i64 ((n : Int) + 1)) : Blk (W9.setCell ⟨Q, 1, none⟩ (.int .i64 ((n : Int) + 1))) Q 103 #[.int .i64 lim, .int .i64 ((n : Int) + 1), .int .i64 N2, .bool false, .int .i64 0])
        have HM := Lib.hid (And.intro (HL.out.2.2.1.far (p := ⟨Q, 1, none⟩) (show w5.heap.size ≠ Q by omega) (.int .i64 ((n : Int) + 1))) (And.intro (HL.out.2.1.far (p := ⟨Q, 1, none⟩) (show w.heap.size + 1 ≠ Q by omega) (.int .i64 ((n : Int) + 1))) (Turn.setCell (X := (· = Q)) W9 ⟨Q, 1, none⟩ (.int .i64 ((n : Int) + 1)) rfl)))
        have htp := top_low _ HU.out.2.1
        have e2 : decide (t.becomes.top > 536870912) = false := decide_eq_false (by omega)
        go_upto_region 18 with fail
        generalize W9.setCell ⟨Q, 1, none⟩ (.int .i64 ((n : Int) + 1)) = W10 at Q1 HM ⊢
        have Q3 := Lib.hid (by simpa using Q1.out.set_ 3 (.bool false) : Blk (W10.setCell ⟨Q, 3, none⟩ (.bool false)) Q 103 #[.int .i64 lim, .int .i64 ((n : Int) + 1), .int .i64 N2, .bool false, .int .i64 0])
        have HN := Lib.hid (And.intro (HM.out.1.far (p := ⟨Q, 3, none⟩) (show w5.heap.size ≠ Q by omega) (.bool false)) (And.intro (HM.out.2.1.far (p := ⟨Q, 3, none⟩) (show w.heap.size + 1 ≠ Q by omega) (.bool false)) (Turn.setCell (X := (· = Q)) W10 ⟨Q, 3, none⟩ (.bool false) rfl)))
        clear x0 x1 x2 x3 x4 c0 c1 c2 c3 c4
        obtain ⟨x0, x1, x2, x3, x4, c0, c1, c2, c3, c4⟩ := Q1.out.facts5
        go_upto_region 19 with fail
        generalize W10.setCell ⟨Q, 3, none⟩ (.bool false) = W11 at Q3 HN ⊢
        obtain ⟨v0, v1, v2, v3, v4, _, _, _, _, _⟩ := HN.out.1.facts5
        obtain ⟨_, _, _, _, _, d0, d1, d2, d3, d4⟩ := HN.out.2.1.facts5
        clear x0 x1 x2 x3 x4 c0 c1 c2 c3 c4
        go_wp2_with fail
        obtain ⟨y0, y1, y2, y3, y4⟩ := (HN.out.2.1.set5 (.int .i64 pk) (.int .i64 pi) (.int .i64 ptk) (.slice pB pn pd) (.slice pA pm pc)).cells5
        have hTn : Turn (· = Q) w8 W11 := (HL.out.2.2.2.trans HM.out.2.2).trans HN.out.2.2
        exact bodyPost_ret (v := .agg #[.int .i64 pk, .int .i64 pi, .int .i64 ptk, .slice pB pn pd, .slice pA pm pc]) (by simp [results, Tryd.results92, go_sem, y0, y1, y2, y3, y4]) rfl
          (step_end (n' := n + 1) (N' := N2) (er := 0) HS.out.1 hQ (by have h := Q3.out; rw [show ((n : Int) + 1) = ((n + 1 : Nat) : Int) by omega] at h; exact h) (TT.out.trans hTn) (lo := V.heap.size) hwV (IsTm.keep (fun b h => ⟨h.1, by have h1 := h.2; have h2 := hTn.size; omega⟩) (fun p hp => World.cell?_of_block (hTn.block p.block (by have h1 := hp.2; omega) (fun e => hp.1.elim (fun h => HS.out.2 _ h e) (fun h => by omega)))) _ TU.out) (.inr (.inl ⟨rfl, hlt, rfl, rfl, by omega, by omega⟩)))
    · have her4 : er = 4 := by rcases H5.out with h | h; exact (her h.1).elim; exact h.1
      subst her4
      have h4 := (H5.out.resolve_left (fun h => absurd h.1 (by decide))).2
      go_upto_region 9 with fail
      obtain ⟨b6, z6, k6⟩ := new_blk (Below.refl w5.heap.size w5) (Nat.le_refl _) #[.int .i64 pk, .int .i64 pi, .int .i64 ptk, .slice pB pn pd, .slice pA pm pc] 34
      have h6 : Below V.heap.size V (w5.alloc (Obj.cells #[.int .i64 pk, .int .i64 pi, .int .i64 ptk, .slice pB pn pd, .slice pA pm pc] 34)) := R5.out.trans (b6.mono R5.out.size)
      generalize w5.alloc (Obj.cells #[.int .i64 pk, .int .i64 pi, .int .i64 ptk, .slice pB pn pd, .slice pA pm pc] 34) = W6 at b6 z6 k6 h6 ⊢
      have H6 := Lib.hid h6
      have hz6 := h6.size
      clear b6 k6 h6 v0 v1 v2 v3 v4 d0 d1 d2 d3 d4 x0 x1 x2 x3 x4 c0 c1 c2 c3 c4
      have K0 := Lib.hid (HQ.out.2.2.1.below H6.out HQ.out.2.2.1.lt)
      have K1 := Lib.hid (HQ.out.2.2.2.1.below H6.out HQ.out.2.2.2.1.lt)
      have KQ := Lib.hid (HQ.out.2.2.2.2.below H6.out HQ.out.2.2.2.2.lt)
      obtain ⟨_, _, _, _, _, c0, c1, c2, c3, c4⟩ := KQ.out.facts5
      have hwV : w.heap.size + 2 ≤ V.heap.size := by have := HQ.out.2.1; omega
      have QF := Lib.hid (by simpa using KQ.out.set_ 4 (.int .i64 4) : Blk (W6.setCell ⟨Q, 4, none⟩ (.int .i64 4)) Q 103 #[.int .i64 lim, .int .i64 n, .int .i64 ((B + t.size : Nat) : Int), .bool false, .int .i64 4])
      have HL := Lib.hid (And.intro (K0.out.far (p := ⟨Q, 4, none⟩) (show w.heap.size ≠ Q by omega) (.int .i64 4)) (And.intro (K1.out.far (p := ⟨Q, 4, none⟩) (show w.heap.size + 1 ≠ Q by omega) (.int .i64 4)) (Turn.setCell (X := (· = Q)) W6 ⟨Q, 4, none⟩ (.int .i64 4) rfl)))
      go_upto_region 10 with fail
      generalize W6.setCell ⟨Q, 4, none⟩ (.int .i64 4) = W9 at QF HL ⊢
      obtain ⟨v0, v1, v2, v3, v4, _, _, _, _, _⟩ := HL.out.1.facts5
      obtain ⟨_, _, _, _, _, d0, d1, d2, d3, d4⟩ := HL.out.2.1.facts5
      clear c0 c1 c2 c3 c4
      go_wp2_with fail
      obtain ⟨y0, y1, y2, y3, y4⟩ := (HL.out.2.1.set5 (.int .i64 t.kind) (.int .i64 t.index) (.int .i64 t.type.kind) (.slice Bt t.type.args.length d) (.slice A t.args.length c)).cells5
      have hTn : Turn (· = Q) w W9 := (Turn.call (X := (· = Q)) (HQ.out.1.trans (H6.out.mono HQ.out.1.size))).trans HL.out.2.2
      exact bodyPost_ret (v := .agg #[.int .i64 t.kind, .int .i64 t.index, .int .i64 t.type.kind, .slice Bt t.type.args.length d, .slice A t.args.length c]) (by simp [results, Tryd.results92, go_sem, y0, y1, y2, y3, y4]) rfl
        (step_end HS.out.1 hQ QF.out hTn (Nat.le_refl _) (IsTm.keep (fun b h => ⟨.inl h, by have h1 := HS.out.1 b h; have h2 := hTn.size; omega⟩) (fun p hp => World.cell?_of_block (hTn.block p.block (HS.out.1 _ hp) (HS.out.2 _ hp))) _ HT.out) (.inr (.inr ⟨rfl, hlt, rfl, rfl, by omega⟩)))
end Go.Proofs.YtifijgihcincfaaDoor
namespace Go.Proofs.YtifijgihcincfaaDoor
open Go.RowKit

set_option maxRecDepth 100000 in
set_option maxHeartbeats 4000000 in
theorem around_any (k i : Int) (T : Ty) (l : List Tm) (j : Nat) (U : Tm) (u : Value) (B A : Option Addr) (d0 a0 pn pj : Nat) (S : Nat → Prop) (w : World) (hj : j < l.length) (hlen : l.length ≤ 1000000) (hS : ∀ b, S b → b < w.heap.size)
    (kn : Blk w pn 34 #[.int .i64 k, .int .i64 i, .int .i64 T.kind, .slice B T.args.length d0, .slice A l.length a0]) (kj : w.cell? ⟨pj, 0, none⟩ = some (.int .i64 j)) (hpj : pj < w.heap.size)
    (hT : IsTm S w (.mk k i T l) (.agg #[.int .i64 k, .int .i64 i, .int .i64 T.kind, .slice B T.args.length d0, .slice A l.length a0])) (hU : IsTm S w U u) :
    Calls Tryd.prog 108 #[u, .pointer (some ⟨pn, 0, none⟩), .pointer (some ⟨pj, 0, none⟩)] w (LiftR S (.mk k i T (l.set j U)) w) := by
  obtain ⟨Bu, du, Au, cu, rfl, _⟩ := IsTm.form hU
  go_enter Tryd.func108, Tryd.ntmps108
  go_upto_region 1 with fail
  obtain ⟨V, hV, b2, z2, k0, k1⟩ := alloc2_facts w #[.int .i64 U.kind, .int .i64 U.index, .int .i64 U.type.kind, .slice Bu U.type.args.length du, .slice Au U.args.length cu] #[.int .i64 0, .int .i64 0, .int .i64 0, .slice none 0 0, .slice none 0 0] 34 34
  rw [← hV]
  have kn' := kn.below b2 kn.lt
  have kj' := (b2.cell (p := ⟨pj, 0, none⟩) hpj).trans kj
  obtain ⟨n0, n1, n2, n3, n4, _, _, _, _, _⟩ := kn'.facts5
  obtain ⟨r0, r1, r2, r3, r4, _, _, _, _, _⟩ := k0.facts5
  have HS := Lib.hid hS
  have HB := Lib.hid (And.intro b2 z2)
  have HK := Lib.hid k1
  have HT := Lib.hid (And.intro hT hU)
  clear hV b2 z2 k0 k1 kn kn' kj hT hU hS
  go_wp2_with fail
  refine (with_any k i T l j U _ _ S V hj hlen (fun b h => Nat.lt_of_lt_of_le (HS.out b h) HB.out.1.size) (IsTm.keep (fun _ h => h) (fun p hp => HB.out.1.cell (HS.out _ hp)) _ HT.out.1) (IsTm.keep (fun _ h => h) (fun p hp => HB.out.1.cell (HS.out _ hp)) _ HT.out.2)).mono ?_
  rintro e w3 ⟨v3, rfl, h3, r3⟩
  obtain ⟨B3, d3, A3, c3, rfl, _⟩ := IsTm.form h3
  have k1 := HK.out.below r3 HK.out.lt
  have H3 := Lib.hid (And.intro h3 r3)
  have K1 := Lib.hid k1
  obtain ⟨_, _, _, _, _, f0, f1, f2, f3, f4⟩ := k1.facts5
  clear h3 r3 k1 n0 n1 n2 n3 n4 r0 r1 r2 r4 kj'
  generalize hR : (Tm.mk k i T (l.set j U)) = R at H3
  go_wp2_with fail
  obtain ⟨y0, y1, y2, y3, y4⟩ := (K1.out.set5 (.int .i64 R.kind) (.int .i64 R.index) (.int .i64 R.type.kind) (.slice B3 R.type.args.length d3) (.slice A3 R.args.length c3)).cells5
  subst hR
  generalize hR : (Tm.mk k i T (l.set j U)) = R at *
  have hg := only_set5 w3 (w.heap.size + 1) (.int .i64 R.kind) (.int .i64 R.index) (.int .i64 R.type.kind) (.slice B3 R.type.args.length d3) (.slice A3 R.args.length c3)
  have hz := HB.out.2
  have hb : Below w.heap.size w w3 := HB.out.1.trans (H3.out.2.mono HB.out.1.size)
  refine bodyPost_ret (v := .agg #[.int .i64 R.kind, .int .i64 R.index, .int .i64 R.type.kind, .slice B3 R.type.args.length d3, .slice A3 R.args.length c3]) (by simp [results, Tryd.results108, go_sem, y0, y1, y2, y3, y4]) rfl
    ⟨_, rfl, IsTm.keep (S := fun b => (S b ∨ V.heap.size ≤ b) ∧ b < w3.heap.size) (fun b h => ⟨h.1.imp id (fun x => by omega), Nat.lt_of_lt_of_le h.2 hg.size⟩) (fun p hp => World.cell?_of_block (hg.block p.block hp.2 (fun e => ?_))) _ H3.out.1, hb.grown hg hb.size (fun k e => by cases e; omega)⟩
  have e' : p.block = w.heap.size + 1 := by simpa using e
  exact hp.1.elim (fun h => by have := HS.out _ h; omega) (fun h => by omega)

/-- What the function above returns, for any part: a node that is a redex as K says of the part's kind. -/
def AboveOK (Q : Nat) (K : Int → Bool) (gf : Nat) (lb : Array Value) (w : World) : Prop :=
  ((gf = 72 ∧ lb = #[]) ∨ (gf = 108 ∧ ∃ p q, lb = #[.pointer p, .pointer q])) ∧
  ∀ (w1 : World) (u : Tm) (uv : Value), Turn (· = Q) w w1 → u.ok = true → IsTm (· < w1.heap.size) w1 u uv →
    Calls Tryd.prog gf (#[uv] ++ lb) w1 fun e w2 => ∃ (x : Tm) (xv : Value), e = .returned xv ∧ (x.ok = true ∨ x.kind = 0) ∧ x.redex = K u.kind ∧ IsTm (· < w2.heap.size) w2 x xv ∧ Below w1.heap.size w1 w2
theorem AboveOK.turn {Q : Nat} {K : Int → Bool} {gf : Nat} {lb : Array Value} {w w' : World} (h : AboveOK Q K gf lb w) (ht : Turn (· = Q) w w') : AboveOK Q K gf lb w' := ⟨h.1, fun w1 u uv h1 => h.2 w1 u uv (ht.trans h1)⟩

/-- The node around a part, as the function above. -/
theorem above_around {k i : Int} {T : Ty} {l : List Tm} {j : Nat} {B A : Option Addr} {d0 a0 pn pj Q : Nat} {S : Nat → Prop} {w : World} (hok : (Tm.mk k i T l).ok = true) (hj : j < l.length) (hlen : l.length ≤ 1000000) (hS : ∀ b, S b → b < w.heap.size) (hSQ : ∀ b, S b → b ≠ Q)
    (kn : Blk w pn 34 #[.int .i64 k, .int .i64 i, .int .i64 T.kind, .slice B T.args.length d0, .slice A l.length a0]) (hn : pn ≠ Q) (kj : w.cell? ⟨pj, 0, none⟩ = some (.int .i64 j)) (hpj : pj < w.heap.size) (hjq : pj ≠ Q)
    (hT : IsTm S w (.mk k i T l) (.agg #[.int .i64 k, .int .i64 i, .int .i64 T.kind, .slice B T.args.length d0, .slice A l.length a0])) :
    AboveOK Q (aboveK k l j) 108 #[.pointer (some ⟨pn, 0, none⟩), .pointer (some ⟨pj, 0, none⟩)] w := by
  refine ⟨.inr ⟨rfl, _, _, rfl⟩, ?_⟩
  intro w1 u uv ht hu hv
  have h := around_any k i T l j u uv B A d0 a0 pn pj (· < w1.heap.size) w1 hj hlen (fun _ h => h) (kn.turn ht hn) (ht.cellv kj hpj hjq) (Nat.lt_of_lt_of_le hpj ht.size) (IsTm.keep (fun b h => Nat.lt_of_lt_of_le (hS b h) ht.size) (fun p hp => World.cell?_of_block (ht.block p.block (hS _ hp) (hSQ _ hp))) _ hT) hv
  refine h.mono ?_
  rintro e w2 ⟨v', rfl, h1, h2⟩
  refine ⟨_, v', rfl, .inl (ok_same hok (by simp) fun a ha => ?_), aboveK_eq k l j u, IsTm.keep (fun b h => h.2) (fun _ _ => rfl) _ h1, h2⟩
  rcases List.mem_or_eq_of_mem_set ha with h | rfl
  · exact ok_arg hok h
  · exact hu
end Go.Proofs.YtifijgihcincfaaDoor
namespace Go.Proofs.YtifijgihcincfaaDoor
open Go.RowKit

theorem ok_few {k i : Int} {T : Ty} {l : List Tm} (h : (Tm.mk k i T l).ok = true) : l.length ≤ 3 := by
  rw [ok_len h]
  generalize k.toNat = n
  by_cases hn : n < 14
  · revert n; decide
  · rw [List.getD_eq_getElem?_getD, List.getElem?_eq_none (by simp [arities]; omega)]
    decide

/-- What a walk in a part leaves behind. -/
def PartR (S : Nat → Prop) (Q lim B n : Nat) (K : Int → Bool) (t : Tm) (w : World) (e : Ending) (w' : World) : Prop :=
  ∃ (u : Tm) (v' : Value) (m : Nat) (N' er : Int), e = .returned v' ∧ IsTm (fun b => (S b ∨ w.heap.size ≤ b) ∧ b < w'.heap.size) w' u v' ∧ WalkAt w' Q lim (n + m) N' er ∧ Turn (· = Q) w w' ∧ Ended B K lim n m t u N' er
def PartIH (N : Nat) : Prop := ∀ (t : Tm) (v : Value) (S : Nat → Prop) (Q lim B n gf : Nat) (K : Int → Bool) (lb : Array Value) (c : Int) (w : World),
  (lim - n) * 5000 + t.size ≤ N → t.ok = true → K t.kind = false → B + t.size ≤ 4096 → 0 ≤ c → c + 4096 * ((lim - n : Nat) : Int) ≤ 530000000 → t.low c = true → n ≤ lim → lim ≤ 1000 → Tab w →
  (∀ b, S b → b < w.heap.size) → (∀ b, S b → b ≠ Q) → 0 ≠ Q → WalkAt w Q lim n ((B + t.size : Nat) : Int) 0 → IsTm S w t v → AboveOK Q K gf lb w →
  Calls Tryd.prog 71 #[.pointer (some ⟨Q, 0, none⟩), v, .func (.func gf) #[] lb] w (PartR S Q lim B n K t w)
/-- What a walk in an Arg leaves behind. -/
def ArgR (S : Nat → Prop) (Q lim B n : Nat) (k i : Int) (T : Ty) (l : List Tm) (j : Nat) (hj : j < l.length) (w : World) (e : Ending) (w' : World) : Prop :=
  ∃ (x : Tm) (v' : Value) (p : Nat) (N' er : Int), e = .returned v' ∧ IsTm (fun b => (S b ∨ w.heap.size ≤ b) ∧ b < w'.heap.size) w' (.mk k i T (l.set j x)) v' ∧ WalkAt w' Q lim (n + p) N' er ∧ Turn (· = Q) w w' ∧
    Ended (B + (1 + sizeAllT l) - (l[j]'hj).size) (aboveK k l j) lim n p (l[j]'hj) x N' er

/-- The result is stored. -/
theorem arg_end {S : Nat → Prop} {Q lim B n p j g : Nat} {k i : Int} {T : Ty} {l : List Tm} (hj : j < l.length) {x U : Tm} {N' er : Int} {w W : World} {x0 x1 x2 x3 x4 : Value} (hS : ∀ b, S b → b < w.heap.size) (hQ : Q < w.heap.size) (hg0 : w.heap.size ≤ g) (hk : WalkAt W Q lim (n + p) N' er) (ht : Turn (· = Q) w W)
    (hU : U = .mk k i T (l.set j x)) (hu : IsTm (fun b => (S b ∨ g < b) ∧ b < W.heap.size) W U (.agg #[x0, x1, x2, x3, x4])) (ho : Ended (B + (1 + sizeAllT l) - (l[j]'hj).size) (aboveK k l j) lim n p (l[j]'hj) x N' er) :
    ArgR S Q lim B n k i T l j hj w (.returned (.agg #[x0, x1, x2, x3, x4])) (((((W.setCell ⟨g, 0, none⟩ x0).setCell ⟨g, 1, none⟩ x1).setCell ⟨g, 2, none⟩ x2).setCell ⟨g, 3, none⟩ x3).setCell ⟨g, 4, none⟩ x4) := by
  subst hU
  have hg := only_set5 W g x0 x1 x2 x3 x4
  refine ⟨x, _, p, N', er, rfl, IsTm.keep (fun b h => ⟨h.1.imp id (fun x => by omega), Nat.lt_of_lt_of_le h.2 hg.size⟩) (fun p hp => World.cell?_of_block (hg.block p.block hp.2 (fun e => ?_))) _ hu, ?_, ?_, ho⟩
  · have e' : p.block = g := by simpa using e
    exact hp.1.elim (fun h => by have := hS _ h; omega) (fun h => by omega)
  · exact Blk.grown hk hg (by simp; omega)
  · exact ⟨hg.os.trans ht.os, hg.tape.trans ht.tape, hg.output.trans ht.output, Nat.le_trans ht.size hg.size, fun k hk hx => (hg.block k (Nat.lt_of_lt_of_le hk ht.size) (by simp; omega)).trans (ht.block k hk hx)⟩

set_option maxRecDepth 100000 in
set_option maxHeartbeats 4000000 in
theorem arg_any (N : Nat) (IH : PartIH N) (k i : Int) (T : Ty) (l : List Tm) (j : Nat) (v : Value) (S : Nat → Prop) (Q lim B n : Nat) (c : Int) (w : World) (hj : j < l.length) (hN : (lim - n) * 5000 + l[j].size ≤ N) (hok : (Tm.mk k i T l).ok = true) (hr : redexOf k l = false)
    (hB : B + (Tm.mk k i T l).size ≤ 4096) (hc : 0 ≤ c) (hc2 : c + 4096 * ((lim - n : Nat) : Int) ≤ 530000000) (hlow : (Tm.mk k i T l).low c = true) (hn : n ≤ lim) (hlim : lim ≤ 1000) (htab : Tab w) (hS : ∀ b, S b → b < w.heap.size) (hSQ : ∀ b, S b → b ≠ Q) (hQ0 : 0 ≠ Q)
    (hw : WalkAt w Q lim n ((B + (Tm.mk k i T l).size : Nat) : Int) 0) (hT : IsTm S w (.mk k i T l) v) :
    Calls Tryd.prog 93 #[.pointer (some ⟨Q, 0, none⟩), v, .int .i64 j] w (ArgR S Q lim B n k i T l j hj w) := by
  have HT := Lib.hid hT
  obtain ⟨Bt, d0, A, a0, rfl, _, hl⟩ := hT.mk_parts
  obtain ⟨a, B1, d1, A1, c1, rfl, ha, q0, q1, q2, q3, q4, hx⟩ := sl_child hl j hj
  have hlen := ok_few hok
  have hQ := Blk.lt hw
  have HW0 := Lib.hid hw
  have HF := Lib.hid (And.intro hok (And.intro hr (And.intro hB (And.intro hc (And.intro hc2 (And.intro hlow hN))))))
  have HX := Lib.hid hx
  have HS := Lib.hid (And.intro hS hSQ)
  have HTab := Lib.hid htab
  have hal : a.block < w.heap.size := hS _ ha
  have hal2 : (a.add (j * 5)).block < w.heap.size := by unfold Addr.add; split <;> exact hal
  clear hok hr hB hc hc2 hlow hN hx hl hT htab hw
  go_enter Tryd.func93, Tryd.ntmps93
  go_upto_region 1 with fail
  obtain ⟨W1, hW1, b2, z2, k0, k1⟩ := alloc2_facts w #[.int .i64 k, .int .i64 i, .int .i64 T.kind, .slice Bt T.args.length d0, .slice (some a) l.length a0] #[.int .i64 j] 34 3
  rw [← hW1]
  obtain ⟨b3, z3, k2⟩ := new_blk b2 b2.size #[.int .i64 0, .int .i64 0, .int .i64 0, .slice none 0 0, .slice none 0 0] 34
  have k0 := k0.alloc (Obj.cells #[.int .i64 0, .int .i64 0, .int .i64 0, .slice none 0 0, .slice none 0 0] 34)
  have k1 := k1.alloc (Obj.cells #[.int .i64 0, .int .i64 0, .int .i64 0, .slice none 0 0, .slice none 0 0] 34)
  generalize W1.alloc (Obj.cells #[.int .i64 0, .int .i64 0, .int .i64 0, .slice none 0 0, .slice none 0 0] 34) = W at b3 z3 k0 k1 k2 ⊢
  rw [z2] at k2 z3
  have kQ : Blk W Q 103 #[.int .i64 lim, .int .i64 n, .int .i64 ((B + (Tm.mk k i T l).size : Nat) : Int), .bool false, .int .i64 0] := Blk.below HW0.out b3 hQ
  obtain ⟨w0, w1, w2, w3, w4, _, _, _, _, _⟩ := kQ.facts5
  obtain ⟨r0, r1, r2, r3, r4, _, _, _, _, _⟩ := k0.facts5
  have e1 := k1.facts1.1
  have q0 := (b3.cell (by exact hal2)).trans q0
  have q1 := (b3.cell (by exact hal2)).trans q1
  have q2 := (b3.cell (by exact hal2)).trans q2
  have q3 := (b3.cell (by exact hal2)).trans q3
  have q4 := (b3.cell (by exact hal2)).trans q4
  have HB := Lib.hid (And.intro b3 z3)
  have HK := Lib.hid (And.intro k0 (And.intro k1 (And.intro k2 kQ)))
  clear hW1 b2 z2 b3 z3 k0 k1 k2 kQ
  go_wp2_with fail
  have hz0 := sizeAllT_get l j hj
  have hzz : (Tm.mk k i T l).size = 1 + sizeAllT l := by simp only [Tm.size]
  have hBB : B + (1 + sizeAllT l) - l[j].size + l[j].size = B + (Tm.mk k i T l).size := by omega
  have hokj : l[j].ok = true := ok_arg HF.out.1 (List.getElem_mem hj)
  have hlowj : l[j].low c = true := lowAll_get (low_mk.1 HF.out.2.2.2.2.2.1).2 j hj
  have hzW : w.heap.size + 3 = W.heap.size := by have := HB.out.2; omega
  clear q0 q1 q2 q3 q4 w0 w1 w2 w3 w4 r0 r1 r2 r3 r4 e1
  refine (IH l[j] _ S Q lim (B + (1 + sizeAllT l) - l[j].size) n 108 (aboveK k l j) #[.pointer (some ⟨w.heap.size, 0, none⟩), .pointer (some ⟨w.heap.size + 1, 0, none⟩)] c W HF.out.2.2.2.2.2.2 hokj (aboveK_self hj HF.out.2.1) (by have := HF.out.2.2.1; omega) HF.out.2.2.2.1 HF.out.2.2.2.2.1 hlowj hn hlim (HTab.out.after HB.out.1) (fun b h => Nat.lt_of_lt_of_le (HS.out.1 b h) HB.out.1.size) HS.out.2 hQ0 (by rw [hBB]; exact HK.out.2.2.2)
    (IsTm.keep (fun _ h => h) (fun p hp => HB.out.1.cell (HS.out.1 _ hp)) _ HX.out)
    (above_around HF.out.1 hj (by omega) (fun b h => Nat.lt_of_lt_of_le (HS.out.1 b h) HB.out.1.size) HS.out.2 HK.out.1 (by omega) HK.out.2.1.facts1.1 (by omega) (by omega) (IsTm.keep (fun _ h => h) (fun p hp => HB.out.1.cell (HS.out.1 _ hp)) _ HT.out))).mono ?_
  rintro e w5 ⟨x, v5, p, N', er, rfl, hx5, hk5, ht5, hE⟩
  obtain ⟨B5, d5, A5, c5, rfl, _⟩ := IsTm.form hx5
  have HE := Lib.hid (And.intro hx5 (And.intro ht5 hE))
  have hz5 := ht5.size
  have k0 := HK.out.1.turn ht5 (by omega)
  have k1 := HK.out.2.1.turn ht5 (by omega)
  have k2 := HK.out.2.2.1.turn ht5 (by omega)
  have HK5 := Lib.hid (And.intro k0 (And.intro k1 (And.intro k2 hk5)))
  clear hx5 hk5 ht5 hE k0 k1 k2
  go_upto_region 4 with fail
  obtain ⟨b6, z6, k6⟩ := new_blk (Below.refl w5.heap.size w5) (Nat.le_refl _) #[.int .i64 x.kind, .int .i64 x.index, .int .i64 x.type.kind, .slice B5 x.type.args.length d5, .slice A5 x.args.length c5] 34
  have K0 := Lib.hid (HK5.out.1.below b6 HK5.out.1.lt)
  have K1 := Lib.hid (HK5.out.2.1.below b6 HK5.out.2.1.lt)
  have K2 := Lib.hid (HK5.out.2.2.1.below b6 HK5.out.2.2.1.lt)
  have KQ := Lib.hid (HK5.out.2.2.2.below b6 HK5.out.2.2.2.lt)
  generalize w5.alloc (Obj.cells #[.int .i64 x.kind, .int .i64 x.index, .int .i64 x.type.kind, .slice B5 x.type.args.length d5, .slice A5 x.args.length c5] 34) = W6 at b6 z6 k6 K0 K1 K2 KQ ⊢
  have H6 := Lib.hid (And.intro b6 k6)
  clear b6 k6
  obtain ⟨w0, w1, w2, w3, w4, _, _, _, _, _⟩ := KQ.out.facts5
  have hnl : (((n + p : Nat) : Int) == (n : Int)) = decide (p = 0) := by rw [Bool.eq_iff_iff]; simp; omega
  have T6 := Lib.hid (show Turn (· = Q) w W6 from (Turn.call HB.out.1).trans (HE.out.2.1.trans (Turn.call H6.out.1)))
  have hz6 := T6.out.size
  by_cases hp : p = 0
  · subst hp
    have e1 : (((n + 0 : Nat) : Int) == (n : Int)) = true := by simp
    clear hnl
    go_upto_region 5 with fail
    obtain ⟨r0, r1, r2, r3, r4, _, _, _, _, _⟩ := K0.out.facts5
    obtain ⟨_, _, _, _, _, f0, f1, f2, f3, f4⟩ := K2.out.facts5
    clear w0 w1 w2 w3 w4
    go_wp2_with fail
    obtain ⟨y0, y1, y2, y3, y4⟩ := (K2.out.set5 (.int .i64 k) (.int .i64 i) (.int .i64 T.kind) (.slice Bt T.args.length d0) (.slice (some a) l.length a0)).cells5
    have hlx : l[j] = x := HE.out.2.2.1.1
    exact bodyPost_ret (v := .agg #[.int .i64 k, .int .i64 i, .int .i64 T.kind, .slice Bt T.args.length d0, .slice (some a) l.length a0]) (by simp [results, Tryd.results93, go_sem, y0, y1, y2, y3, y4]) rfl
      (arg_end hj HS.out.1 hQ (by omega) KQ.out T6.out (by rw [← hlx, List.set_getElem_self]) (IsTm.keep (fun b h => ⟨.inl h, by have h1 := HS.out.1 b h; omega⟩) (fun p hp => World.cell?_of_block (T6.out.block p.block (HS.out.1 _ hp) (HS.out.2 _ hp))) _ HT.out) HE.out.2.2)
  · have e1 : (((n + p : Nat) : Int) == (n : Int)) = false := by rw [hnl]; simpa using hp
    clear hnl
    obtain ⟨s0, s1, s2, s3, s4, _, _, _, _, _⟩ := H6.out.2.facts5
    go_upto_region 6 with fail
    clear w0 w1 w2 w3 w4
    go_wp2_with fail
    have hWz := HB.out.1.size
    refine (around_any k i T l j x _ Bt (some a) d0 a0 w.heap.size (w.heap.size + 1) (fun b => (S b ∨ W.heap.size ≤ b) ∧ b < w5.heap.size) W6 hj (by omega) (fun b h => by have h1 := h.2; have h2 := H6.out.1.size; omega) K0.out K1.out.facts1.1 (by omega)
      (IsTm.keep (fun b h => ⟨.inl h, by have h1 := HS.out.1 b h; omega⟩) (fun p hp => World.cell?_of_block (T6.out.block p.block (HS.out.1 _ hp) (HS.out.2 _ hp))) _ HT.out)
      (IsTm.keep (fun _ h => h) (fun p hp => H6.out.1.cell hp.2) _ HE.out.1)).mono ?_
    rintro e w7 ⟨v7, rfl, h7, r7⟩
    have hz7 := r7.size
    have hz6' := H6.out.1.size
    obtain ⟨B7, d7, A7, c7, rfl, _⟩ := IsTm.form h7
    have K27 := Lib.hid (K2.out.below r7 K2.out.lt)
    have KQ7 := Lib.hid (KQ.out.below r7 KQ.out.lt)
    have T7 := Lib.hid (T6.out.trans (Turn.call r7))
    obtain ⟨_, _, _, _, _, f0, f1, f2, f3, f4⟩ := K27.out.facts5
    have H7 := Lib.hid (show IsTm (fun b => (S b ∨ w.heap.size + 1 + 1 < b) ∧ b < w7.heap.size) w7 (.mk k i T (l.set j x)) _ from IsTm.keep (fun b h => ⟨h.1.elim (fun h => h.1.imp id (fun h => by omega)) (fun h => .inr (by omega)), h.2⟩) (fun _ _ => rfl) _ h7)
    generalize hR : (Tm.mk k i T (l.set j x)) = R at H7
    clear h7 r7 s0 s1 s2 s3 s4
    subst hR
    generalize hR : (Tm.mk k i T (l.set j x)) = R at *
    go_wp2_with fail
    obtain ⟨y0, y1, y2, y3, y4⟩ := (K27.out.set5 (.int .i64 R.kind) (.int .i64 R.index) (.int .i64 R.type.kind) (.slice B7 R.type.args.length d7) (.slice A7 R.args.length c7)).cells5
    exact bodyPost_ret (v := .agg #[.int .i64 R.kind, .int .i64 R.index, .int .i64 R.type.kind, .slice B7 R.type.args.length d7, .slice A7 R.args.length c7]) (by simp [results, Tryd.results93, go_sem, y0, y1, y2, y3, y4]) rfl
      (arg_end hj HS.out.1 hQ (by omega) KQ7.out T7.out hR.symm H7.out HE.out.2.2)
end Go.Proofs.YtifijgihcincfaaDoor
namespace Go.Proofs.YtifijgihcincfaaDoor
open Go.RowKit

/-- The cells of the walk, as numbers. -/
def cellInt (w : World) (p : Addr) : Int := match w.cell? p with
  | some v => intOf v
  | none => 0

theorem cellInt_of {w : World} {p : Addr} {v : Value} (h : w.cell? p = some v) : cellInt w p = intOf v := by unfold cellInt; rw [h]

theorem part_less {lim s s' x x' : Nat} {e : Int} (h : e = 0 → (s < s' ∧ s' ≤ lim) ∨ (s = s' ∧ x < x' ∧ x ≤ 3)) :
    (if intOf (.int .i64 e) = 0 then 1 + ((lim - (intOf (.int .i64 (s' : Int))).toNat) * 10 + (4 - (intOf (.int .i64 (x' : Int))).toNat)) else 0) < (if intOf (.int .i64 0) = 0 then 1 + ((lim - (intOf (.int .i64 (s : Int))).toNat) * 10 + (4 - (intOf (.int .i64 (x : Int))).toNat)) else 0) := by
  have h1 : ∀ n : Nat, (intOf (.int .i64 (n : Int))).toNat = n := fun n => Int.toNat_natCast n
  rw [h1, h1, h1, h1, if_pos (show intOf (.int .i64 0) = 0 from rfl)]
  by_cases he : intOf (.int .i64 e) = 0
  · rw [if_pos he]
    rcases h he with h | h <;> omega
  · rw [if_neg he]; omega

/-- How part's loop stands. -/
def PartAt (S : Nat → Prop) (Q lim B n : Nat) (K : Int → Bool) (t : Tm) (w : World) (ix : Value) (wr : World) : Prop :=
  ∃ (u : Tm) (m next : Nat) (N e : Int) (B1 A1 : Option Addr) (d1 c1 : Nat), ix = .int .i64 next ∧ Stand B K lim n m t u N e next ∧ WalkAt wr Q lim (n + m) N e ∧
    Blk wr w.heap.size 34 #[.int .i64 u.kind, .int .i64 u.index, .int .i64 u.type.kind, .slice B1 u.type.args.length d1, .slice A1 u.args.length c1] ∧
    Blk wr (w.heap.size + 1) 34 #[.int .i64 0, .int .i64 0, .int .i64 0, .slice none 0 0, .slice none 0 0] ∧
    IsTm (fun b => (S b ∨ w.heap.size + 2 ≤ b) ∧ b < wr.heap.size) wr u (.agg #[.int .i64 u.kind, .int .i64 u.index, .int .i64 u.type.kind, .slice B1 u.type.args.length d1, .slice A1 u.args.length c1]) ∧
    Turn (· = Q) w wr ∧ next ≤ 3

theorem Turn.local {X : Nat → Prop} {w W W2 : World} {g : Nat} (ht : Turn X w W) (hg : W.grownBy W2 (some g)) (h0 : w.heap.size ≤ g) : Turn X w W2 :=
  ⟨hg.os.trans ht.os, hg.tape.trans ht.tape, hg.output.trans ht.output, Nat.le_trans ht.size hg.size, fun k hk hx => (hg.block k (Nat.lt_of_lt_of_le hk ht.size) (by simp; omega)).trans (ht.block k hk hx)⟩

/-- The result is stored. -/
theorem part_end {S : Nat → Prop} {Q lim B n m : Nat} {K : Int → Bool} {t u : Tm} {N' er : Int} {w W : World} {x0 x1 x2 x3 x4 : Value} (hS : ∀ b, S b → b < w.heap.size) (hQ : Q < w.heap.size) (hk : WalkAt W Q lim (n + m) N' er) (ht : Turn (· = Q) w W)
    (hu : IsTm (fun b => (S b ∨ w.heap.size + 2 ≤ b) ∧ b < W.heap.size) W u (.agg #[x0, x1, x2, x3, x4])) (ho : Ended B K lim n m t u N' er) :
    PartR S Q lim B n K t w (.returned (.agg #[x0, x1, x2, x3, x4])) (((((W.setCell ⟨w.heap.size + 1, 0, none⟩ x0).setCell ⟨w.heap.size + 1, 1, none⟩ x1).setCell ⟨w.heap.size + 1, 2, none⟩ x2).setCell ⟨w.heap.size + 1, 3, none⟩ x3).setCell ⟨w.heap.size + 1, 4, none⟩ x4) := by
  have hg := only_set5 W (w.heap.size + 1) x0 x1 x2 x3 x4
  refine ⟨u, _, m, N', er, rfl, IsTm.keep (fun b h => ⟨h.1.imp id (fun x => by omega), Nat.lt_of_lt_of_le h.2 hg.size⟩) (fun p hp => World.cell?_of_block (hg.block p.block hp.2 (fun e => ?_))) _ hu, ?_, ?_, ho⟩
  · have e' : p.block = w.heap.size + 1 := by simpa using e
    exact hp.1.elim (fun h => by have := hS _ h; omega) (fun h => by omega)
  · exact Blk.grown hk hg (by simp; omega)
  · exact ⟨hg.os.trans ht.os, hg.tape.trans ht.tape, hg.output.trans ht.output, Nat.le_trans ht.size hg.size, fun k hk hx => (hg.block k (Nat.lt_of_lt_of_le hk ht.size) (by simp; omega)).trans (ht.block k hk hx)⟩

set_option maxRecDepth 100000 in
set_option maxHeartbeats 4000000 in
theorem part_any (N : Nat) : PartIH N := by
  induction N with
  | zero =>
    intro t v S Q lim B n gf K lb c w hN
    exfalso
    cases t
    simp only [Tm.size] at hN
    omega
  | succ N ih =>
    intro t v S Q lim B n gf K lb c w hN hok hK hB hc hc2 hlow hn hlim htab hS hSQ hQ0 hw hT hab
    obtain ⟨Bt, d0, A, a0, rfl, _⟩ := IsTm.form hT
    have IH := Lib.hid ih
    have hQ := Blk.lt hw
    have HW0 := Lib.hid hw
    have HF := Lib.hid (And.intro hok (And.intro hB (And.intro hc (And.intro hc2 (And.intro hlow (And.intro hN hK))))))
    have HS := Lib.hid (And.intro hS hSQ)
    have HTab := Lib.hid htab
    have HA := Lib.hid hab
    have HT := Lib.hid hT
    clear ih hok hK hB hc hc2 hlow hN hT htab hw hS hSQ hab
    go_enter Tryd.func71, Tryd.ntmps71
    go_upto_region 1 with fail
    obtain ⟨W, hW, b2, z2, k0, k1⟩ := alloc2_facts w #[.int .i64 t.kind, .int .i64 t.index, .int .i64 t.type.kind, .slice Bt t.type.args.length d0, .slice A t.args.length a0] #[.int .i64 0, .int .i64 0, .int .i64 0, .slice none 0 0, .slice none 0 0] 34 34
    rw [← hW]
    have kQ : Blk W Q 103 #[.int .i64 lim, .int .i64 n, .int .i64 ((B + t.size : Nat) : Int), .bool false, .int .i64 0] := Blk.below HW0.out b2 hQ
    have HP := Lib.hid (show PartAt S Q lim B n K t w (.int .i64 (0 : Nat)) W from ⟨t, 0, 0, _, 0, Bt, A, d0, a0, rfl, Stand.start hn HF.out.2.2.2.2.2.2, kQ, k0, k1, IsTm.keep (fun b h => ⟨.inl h, Nat.lt_of_lt_of_le (HS.out.1 b h) b2.size⟩) (fun p hp => b2.cell (HS.out.1 _ hp)) _ HT.out, Turn.call b2, by omega⟩)
    clear hW b2 z2 k0 k1 kQ
    go_wp2_with fail
    go_loopw [7] (fun ix wr => PartAt S Q lim B n K t w ix wr)
      (fun ix wr => if cellInt wr ⟨Q, 4, none⟩ = 0 then 1 + ((lim - (cellInt wr ⟨Q, 1, none⟩).toNat) * 10 + (4 - (intOf ix).toNat)) else 0)
    case atStart => exact HP.out
    case round =>
      obtain ⟨u, m, next, Nn, er, B1, A1, d1, c1, rfl, hst, hk, k0, k1, hu, ht, hx3⟩ := hrel
      have HST := Lib.hid hst
      have HK := Lib.hid (And.intro hk (And.intro k0 k1))
      have HU := Lib.hid hu
      have T1 := Lib.hid ht
      have hzr := ht.size
      have hzu : w.heap.size + 1 < wr.heap.size := k1.lt
      obtain ⟨w0, w1, w2, w3, w4, _, _, _, _, _⟩ := hk.facts5
      obtain ⟨r0, r1, r2, r3, r4, g0, g1, g2, g3, g4⟩ := k0.facts5
      obtain ⟨_, _, _, _, _, f0, f1, f2, f3, f4⟩ := k1.facts5
      have hokU := hst.1.ok HF.out.1
      have hszU := hst.1.size HF.out.2.1
      have hlowU := hst.1.low HF.out.2.2.1 HF.out.2.1 HF.out.1 HF.out.2.2.2.2.1
      have hnm := hst.2.1
      have HOK := Lib.hid (And.intro hokU (And.intro hszU hlowU))
      clear hst hk k0 k1 hu ht hokU hlowU
      by_cases he : er = 0
      · subst he
        have hNn : Nn = ((B + u.size : Nat) : Int) := by
          rcases HST.out.2.2.2 with h | h | h
          · exact h.2.1
          · exact absurd h.1 (by decide)
          · exact absurd h.1 (by decide)
        subst hNn
        go_upto_if 1 with fail
        clear w0 w1 w2 w3 w4 f0 f1 f2 f3 f4 g0 g1 g2 g3 g4
        refine (redex_any u _ wr (.inl HOK.out.1) (IsTm.keep (fun b h => h.2) (fun _ _ => rfl) _ HU.out)).mono ?_
        rintro e w3 ⟨rfl, b3⟩
        have K3 := Lib.hid (And.intro (HK.out.1.below b3 HK.out.1.lt) (And.intro (HK.out.2.1.below b3 HK.out.2.1.lt) (HK.out.2.2.below b3 HK.out.2.2.lt)))
        have T3 := Lib.hid (T1.out.trans (Turn.call b3))
        have B3 := Lib.hid b3
        have U3 := Lib.hid (show IsTm (fun b => (S b ∨ w.heap.size + 2 ≤ b) ∧ b < wr.heap.size) w3 u _ from IsTm.keep (fun _ h => h) (fun p hp => b3.cell hp.2) _ HU.out)
        have hz3 := b3.size
        clear b3 r0 r1 r2 r3 r4
        obtain ⟨r0, r1, r2, r3, r4, g0, g1, g2, g3, g4⟩ := K3.out.2.1.facts5
        by_cases hrd : u.redex = true
        · go_upto_region 5 with fail
          clear g0 g1 g2 g3 g4
          go_wp2_with fail
          refine (step_any u _ (fun b => (S b ∨ w.heap.size + 2 ≤ b) ∧ b < wr.heap.size) Q lim B (n + m) w3 HOK.out.1 hrd HOK.out.2.1 (low_mono (by have := HF.out.2.2.2.1; omega) _ HOK.out.2.2) hlim hnm (HTab.out.turn T3.out hQ0) (fun b h => by have := h.2; omega) (fun b h => h.1.elim (fun h => HS.out.2 b h) (fun h => by omega)) K3.out.1 U3.out).mono ?_
          rintro e w4 ⟨v, v', n', N', er', rfl, hv, hkv, htv, ho⟩
          obtain ⟨p, rfl, hcase, hp0, hp1⟩ := HST.out.step hrd ho
          obtain ⟨B4, d4, A4, c4, rfl, _⟩ := IsTm.form hv
          have hz4 := htv.size
          have k0 := K3.out.2.1.turn htv (by omega)
          have k1 := K3.out.2.2.turn htv (by omega)
          obtain ⟨_, _, _, _, _, g0, g1, g2, g3, g4⟩ := k0.facts5
          have hg := only_set5 w4 w.heap.size (.int .i64 v.kind) (.int .i64 v.index) (.int .i64 v.type.kind) (.slice B4 v.type.args.length d4) (.slice A4 v.args.length c4)
          have K0 := Lib.hid (k0.set5 (.int .i64 v.kind) (.int .i64 v.index) (.int .i64 v.type.kind) (.slice B4 v.type.args.length d4) (.slice A4 v.args.length c4))
          have K1 := Lib.hid (Blk.grown k1 hg (by simp))
          have KQ := Lib.hid (show WalkAt _ Q lim (n + p) N' er' from Blk.grown hkv hg (by simp; omega))
          have TV := Lib.hid ((T3.out.trans htv).local hg (Nat.le_refl _))
          have UV := Lib.hid (show IsTm (fun b => (S b ∨ w.heap.size + 2 ≤ b) ∧ b < (((((w4.setCell ⟨w.heap.size, 0, none⟩ (.int .i64 v.kind)).setCell ⟨w.heap.size, 1, none⟩ (.int .i64 v.index)).setCell ⟨w.heap.size, 2, none⟩ (.int .i64 v.type.kind)).setCell ⟨w.heap.size, 3, none⟩ (.slice B4 v.type.args.length d4)).setCell ⟨w.heap.size, 4, none⟩ (.slice A4 v.args.length c4)).heap.size) _ v _ from
            IsTm.keep (fun b h => ⟨h.1.elim (fun h => h.1) (fun h => .inr (by omega)), Nat.lt_of_lt_of_le h.2 hg.size⟩) (fun q hq => World.cell?_of_block (hg.block q.block hq.2 (fun e => by
              have e' : q.block = w.heap.size := by simpa using e
              exact hq.1.elim (fun h => h.1.elim (fun h => by have := HS.out.1 _ h; omega) (fun h => by omega)) (fun h => by omega)))) _ hv)
          have hvo : v.ok = true := hcase.elim (fun h => h.2.1.1.ok HF.out.1) (fun h => h.2.1.ok HF.out.1)
          have HC := Lib.hid hcase
          have hp5 : er' = 0 → n + p ≤ lim := fun _ => hcase.elim (fun h => h.2.2.1) (fun h => h.2.2.1)
          clear hv hkv htv ho k0 k1 hcase r0 r1 r2 r3 r4
          go_upto_region 6 with fail
          obtain ⟨W5, hW5⟩ : ∃ W5, W5 = ((((w4.setCell ⟨w.heap.size, 0, none⟩ (.int .i64 v.kind)).setCell ⟨w.heap.size, 1, none⟩ (.int .i64 v.index)).setCell ⟨w.heap.size, 2, none⟩ (.int .i64 v.type.kind)).setCell ⟨w.heap.size, 3, none⟩ (.slice B4 v.type.args.length d4)).setCell ⟨w.heap.size, 4, none⟩ (.slice A4 v.args.length c4) := ⟨_, rfl⟩
          rw [← hW5] at K0 K1 KQ TV UV ⊢
          clear hW5 hg g0 g1 g2 g3 g4
          obtain ⟨r0, r1, r2, r3, r4, _, _, _, _, _⟩ := K0.out.facts5
          have HA2 := Lib.hid (HA.out.2 W5 v (.agg #[.int .i64 v.kind, .int .i64 v.index, .int .i64 v.type.kind, .slice B4 v.type.args.length d4, .slice A4 v.args.length c4]) TV.out hvo (IsTm.keep (fun b h => h.2) (fun _ _ => rfl) _ UV.out))
          have hgl := HA.out.1
          clear HA
          rcases hgl with ⟨rfl, rfl⟩ | ⟨rfl, p1, p2, rfl⟩
          all_goals
            go_wp2_with fail
            refine HA2.out.mono ?_
            rintro e w6 ⟨x, xv, rfl, hxo, hxr, hxt, b6⟩
            obtain ⟨Bx, dx, Ax, cx, rfl, _⟩ := IsTm.form hxt
            have hz6 := b6.size
            have HX := Lib.hid (And.intro hxo (And.intro hxt b6))
            clear hxo hxt b6 r0 r1 r2 r3 r4
            go_wp2_with fail
            refine (redex_any x _ w6 HX.out.1 HX.out.2.1).mono ?_
            rintro e w7 ⟨rfl, b7⟩
            rw [hxr]
            have B7 := Lib.hid (HX.out.2.2.trans (b7.mono hz6))
            have hz7 := b7.size
            clear b7 hxr HX
            have K7 := Lib.hid (And.intro (KQ.out.below B7.out KQ.out.lt) (And.intro (K0.out.below B7.out K0.out.lt) (K1.out.below B7.out K1.out.lt)))
            have T7 := Lib.hid (TV.out.trans (Turn.call B7.out))
            have U7 := Lib.hid (show IsTm (fun b => (S b ∨ w.heap.size + 2 ≤ b) ∧ b < w7.heap.size) w7 v _ from IsTm.keep (fun b h => ⟨h.1, by have := h.2; omega⟩) (fun q hq => B7.out.cell hq.2) _ UV.out)
            obtain ⟨r0, r1, r2, r3, r4, _, _, _, _, _⟩ := K7.out.2.1.facts5
            obtain ⟨_, _, _, _, _, f0, f1, f2, f3, f4⟩ := K7.out.2.2.facts5
            cases hKv : K v.kind with
            | true =>
              have hend : Ended B K lim n p t v N' er' := HC.out.elim (fun h => h.2) (fun h => by rw [h.1] at hKv; cases hKv)
              go_wp2_with fail
              obtain ⟨y0, y1, y2, y3, y4⟩ := (K7.out.2.2.set5 (.int .i64 v.kind) (.int .i64 v.index) (.int .i64 v.type.kind) (.slice B4 v.type.args.length d4) (.slice A4 v.args.length c4)).cells5
              exact bodyPost_ret (v := .agg #[.int .i64 v.kind, .int .i64 v.index, .int .i64 v.type.kind, .slice B4 v.type.args.length d4, .slice A4 v.args.length c4]) (by simp [results, Tryd.results71, go_sem, y0, y1, y2, y3, y4]) rfl
                (part_end HS.out.1 hQ K7.out.1 T7.out U7.out hend)
            | false =>
              have hstand : Stand B K lim n p t v N' er' 0 := HC.out.elim (fun h => by rw [h.1] at hKv; cases hKv) (fun h => h.2)
              go_wp2_with fail
              go_roundw
              case rel => exact ⟨v, p, 0, N', er', B4, A4, d4, c4, rfl, hstand, K7.out.1, K7.out.2.1, K7.out.2.2, U7.out, T7.out, by omega⟩
              case measure =>
                rw [cellInt_of K7.out.1.facts5.2.1, cellInt_of K7.out.1.facts5.2.2.2.2.1, cellInt_of HK.out.1.facts5.2.1, cellInt_of HK.out.1.facts5.2.2.2.2.1]
                have h1 := hstand.2.1
                exact part_less fun e0 => .inl (by have := hp0 e0; exact ⟨by omega, by omega⟩)
        · have hrf : u.redex = false := by simpa using hrd
          clear hrd
          by_cases hlt : next < u.args.length
          · have hl3 : ((next : Int) < (u.args.length : Int)) := by omega
            clear g0 g1 g2 g3 g4
            have he := Lib.hid (tm_eta u)
            have hlu : u.args.length ≤ 3 := ok_few (T := u.type) (i := u.index) (k := u.kind) (by rw [← he.out]; exact HOK.out.1)
            have hsj := sizeAllT_get u.args next hlt
            have hsu : u.size = 1 + sizeAllT u.args := by conv => lhs; rw [he.out]; rw [Tm.size]
            have hst' : Stand B K lim n m t (.mk u.kind u.index u.type u.args) ((B + u.size : Nat) : Int) 0 next := by rw [← he.out]; exact HST.out
            have hNarg : (lim - (n + m)) * 5000 + u.args[next].size ≤ N := by
              have h1 := HF.out.2.2.2.2.2.1
              have h2 := HOK.out.2.1
              by_cases hm0 : m = 0
              · subst hm0
                have h3 : t = u := HST.out.1
                subst h3
                omega
              · omega
            go_wp2_with fail
            refine (arg_any N IH.out u.kind u.index u.type u.args next _ (fun b => (S b ∨ w.heap.size + 2 ≤ b) ∧ b < wr.heap.size) Q lim B (n + m) (c + 4096 * m) w3 hlt hNarg (by rw [← he.out]; exact HOK.out.1) hrf (by rw [← he.out]; exact HOK.out.2.1) (by have := HF.out.2.2.1; omega) (by have := HF.out.2.2.2.1; omega) (by rw [← he.out]; exact HOK.out.2.2) hnm hlim (HTab.out.turn T3.out hQ0) (fun b h => by have := h.2; omega) (fun b h => h.1.elim (fun h => HS.out.2 b h) (fun h => by omega)) hQ0 (by rw [← he.out]; exact K3.out.1) (by rw [← he.out]; exact U3.out)).mono ?_
            rintro e w4 ⟨x, v', p, N', er', rfl, hv, hkv, htv, hE⟩
            have hs2 := hst'.arg hrf hlt hE
            generalize (Tm.mk u.kind u.index u.type (u.args.set next x)) = v at hv hs2
            obtain ⟨B4, d4, A4, c4, rfl, _⟩ := IsTm.form hv
            have hz4 := htv.size
            have k0 := K3.out.2.1.turn htv (by omega)
            have k1 := K3.out.2.2.turn htv (by omega)
            obtain ⟨_, _, _, _, _, g0, g1, g2, g3, g4⟩ := k0.facts5
            have hg := only_set5 w4 w.heap.size (.int .i64 v.kind) (.int .i64 v.index) (.int .i64 v.type.kind) (.slice B4 v.type.args.length d4) (.slice A4 v.args.length c4)
            have K0 := Lib.hid (k0.set5 (.int .i64 v.kind) (.int .i64 v.index) (.int .i64 v.type.kind) (.slice B4 v.type.args.length d4) (.slice A4 v.args.length c4))
            have K1 := Lib.hid (Blk.grown k1 hg (by simp))
            have KQ := Lib.hid (show WalkAt _ Q lim (n + (m + p)) N' er' from by rw [← Nat.add_assoc]; exact Blk.grown hkv hg (by simp; omega))
            have TV := Lib.hid ((T3.out.trans htv).local hg (Nat.le_refl _))
            have UV := Lib.hid (show IsTm (fun b => (S b ∨ w.heap.size + 2 ≤ b) ∧ b < (((((w4.setCell ⟨w.heap.size, 0, none⟩ (.int .i64 v.kind)).setCell ⟨w.heap.size, 1, none⟩ (.int .i64 v.index)).setCell ⟨w.heap.size, 2, none⟩ (.int .i64 v.type.kind)).setCell ⟨w.heap.size, 3, none⟩ (.slice B4 v.type.args.length d4)).setCell ⟨w.heap.size, 4, none⟩ (.slice A4 v.args.length c4)).heap.size) _ v _ from
              IsTm.keep (fun b h => ⟨h.1.elim (fun h => h.1) (fun h => .inr (by omega)), Nat.lt_of_lt_of_le h.2 hg.size⟩) (fun q hq => World.cell?_of_block (hg.block q.block hq.2 (fun e => by
                have e' : q.block = w.heap.size := by simpa using e
                exact hq.1.elim (fun h => h.1.elim (fun h => by have := HS.out.1 _ h; omega) (fun h => by omega)) (fun h => by omega)))) _ hv)
            have HS2 := Lib.hid hs2
            have hE2 := hE.2.1
            clear hv hkv htv k0 k1 r0 r1 r2 r3 r4 hs2 hst' he hE
            go_upto_region 11 with fail
            obtain ⟨W5, hW5⟩ : ∃ W5, W5 = ((((w4.setCell ⟨w.heap.size, 0, none⟩ (.int .i64 v.kind)).setCell ⟨w.heap.size, 1, none⟩ (.int .i64 v.index)).setCell ⟨w.heap.size, 2, none⟩ (.int .i64 v.type.kind)).setCell ⟨w.heap.size, 3, none⟩ (.slice B4 v.type.args.length d4)).setCell ⟨w.heap.size, 4, none⟩ (.slice A4 v.args.length c4) := ⟨_, rfl⟩
            rw [← hW5] at K0 K1 KQ TV UV ⊢
            clear hW5 hg g0 g1 g2 g3 g4
            go_wp2_with fail
            go_roundw
            case rel => exact ⟨v, m + p, next + 1, N', er', B4, A4, d4, c4, rfl, HS2.out, KQ.out, K0.out, K1.out, UV.out, TV.out, by omega⟩
            case measure =>
              rw [cellInt_of KQ.out.facts5.2.1, cellInt_of KQ.out.facts5.2.2.2.2.1, cellInt_of HK.out.1.facts5.2.1, cellInt_of HK.out.1.facts5.2.2.2.2.1]
              exact part_less (lim := lim) (s := n + m) (s' := n + (m + p)) (x := next) (x' := next + 1) fun e0 => by
                by_cases hp : p = 0
                · exact .inr ⟨by omega, by omega, by omega⟩
                · exact .inl ⟨by omega, by omega⟩
          · have hl3 : ¬ ((next : Int) < (u.args.length : Int)) := by omega
            obtain ⟨_, _, _, _, _, f0, f1, f2, f3, f4⟩ := K3.out.2.2.facts5
            clear g0 g1 g2 g3 g4
            go_wp2_with fail
            obtain ⟨y0, y1, y2, y3, y4⟩ := (K3.out.2.2.set5 (.int .i64 u.kind) (.int .i64 u.index) (.int .i64 u.type.kind) (.slice B1 u.type.args.length d1) (.slice A1 u.args.length c1)).cells5
            exact bodyPost_ret (v := .agg #[.int .i64 u.kind, .int .i64 u.index, .int .i64 u.type.kind, .slice B1 u.type.args.length d1, .slice A1 u.args.length c1]) (by simp [results, Tryd.results71, go_sem, y0, y1, y2, y3, y4]) rfl
              (part_end HS.out.1 hQ K3.out.1 T3.out (IsTm.keep (fun b h => ⟨h.1, by have := h.2; omega⟩) (fun _ _ => rfl) _ U3.out) (HST.out.normal hrf (by omega)))
      · have e1 : (er == 0) = false := by simpa using he
        clear w0 w1 w2 w3 g0 g1 g2 g3 g4
        go_wp2_with fail
        obtain ⟨y0, y1, y2, y3, y4⟩ := (HK.out.2.2.set5 (.int .i64 u.kind) (.int .i64 u.index) (.int .i64 u.type.kind) (.slice B1 u.type.args.length d1) (.slice A1 u.args.length c1)).cells5
        exact bodyPost_ret (v := .agg #[.int .i64 u.kind, .int .i64 u.index, .int .i64 u.type.kind, .slice B1 u.type.args.length d1, .slice A1 u.args.length c1]) (by simp [results, Tryd.results71, go_sem, y0, y1, y2, y3, y4]) rfl
          (part_end HS.out.1 hQ HK.out.1 T1.out HU.out (HST.out.failed he))
end Go.Proofs.YtifijgihcincfaaDoor
namespace Go.Proofs.YtifijgihcincfaaDoor
open Go.RowKit

theorem isTm_void (S : Nat → Prop) (w : World) : IsTm S w .void (.agg #[.int .i64 0, .int .i64 0, .int .i64 0, .slice none 0 0, .slice none 0 0]) :=
  isTm_iff.2 ⟨rfl, rfl, (show IsTy S w (.mk 0 []) _ from by unfold IsTy; exact ⟨none, 0, rfl, fun h => (h rfl).elim⟩), ⟨none, 0, rfl, fun h => (h rfl).elim⟩⟩

set_option maxRecDepth 100000 in
set_option maxHeartbeats 1000000 in
/-- There is no node above the root. -/
theorem above_root (Q : Nat) (w : World) : AboveOK Q (fun _ => false) 72 #[] w := by
  refine ⟨.inl ⟨rfl, rfl⟩, ?_⟩
  intro w1 u uv ht hu hv
  obtain ⟨Bu, du, Au, cu, rfl, _⟩ := IsTm.form hv
  rw [Array.append_empty]
  go_enter Tryd.func72, Tryd.ntmps72
  go_upto_region 1 with fail
  obtain ⟨V, hV, b2, z2, k0, k1⟩ := alloc2_facts w1 #[.int .i64 u.kind, .int .i64 u.index, .int .i64 u.type.kind, .slice Bu u.type.args.length du, .slice Au u.args.length cu] #[.int .i64 0, .int .i64 0, .int .i64 0, .slice none 0 0, .slice none 0 0] 34 34
  rw [← hV]
  clear hV
  obtain ⟨_, _, _, _, _, f0, f1, f2, f3, f4⟩ := k1.facts5
  go_wp2_with fail
  obtain ⟨y0, y1, y2, y3, y4⟩ := (k1.set5 (.int .i64 0) (.int .i64 0) (.int .i64 0) (.slice none 0 0) (.slice none 0 0)).cells5
  have hg := only_set5 V (w1.heap.size + 1) (.int .i64 0) (.int .i64 0) (.int .i64 0) (.slice none 0 0) (.slice none 0 0)
  exact bodyPost_ret (v := .agg #[.int .i64 0, .int .i64 0, .int .i64 0, .slice none 0 0, .slice none 0 0]) (by simp [results, Tryd.results72, go_sem, y0, y1, y2, y3, y4]) rfl
    ⟨.void, _, rfl, .inr rfl, rfl, isTm_void _ _, b2.grown hg b2.size (fun k e => by cases e; omega)⟩

/-- What a walk from the root comes to. -/
def WalkR (S : Nat → Prop) (lim : Nat) (t : Tm) (w : World) (e : Ending) (w' : World) : Prop :=
  ∃ (u : Tm) (m : Nat) (er : Int) (v' : Value), e = .returned (.tuple #[v', .int .i64 m, .int .i64 er]) ∧ IsTm (fun b => (S b ∨ w.heap.size ≤ b) ∧ b < w'.heap.size) w' u v' ∧ Below w.heap.size w w' ∧ Ends 0 (fun _ => false) lim m t u er
/-- The result is stored. -/
theorem walked_end {S : Nat → Prop} {lim m Q g : Nat} {t u : Tm} {er : Int} {w W3 w4 W5 W6 : World} {x0 x1 x2 x3 x4 : Value} (hS : ∀ b, S b → b < w.heap.size) (hg0 : w.heap.size ≤ g) (hb : Below w.heap.size w W3) (hgQ : g < Q) (hQ : W3.heap.size = Q + 1) (ht : Turn (· = Q) W3 w4) (hb5 : Below w4.heap.size w4 W5) (hg : W5.grownBy W6 (some g))
    (hu : IsTm (fun b => (S b ∨ W3.heap.size ≤ b) ∧ b < w4.heap.size) w4 u (.agg #[x0, x1, x2, x3, x4])) (hE : Ends 0 (fun _ => false) lim m t u er) :
    WalkR S lim t w (.returned (.tuple #[.agg #[x0, x1, x2, x3, x4], .int .i64 m, .int .i64 er])) W6.drew := by
  have h1 := ht.size
  have h2 := hb5.size
  have h3 := hb.size
  have hbb : Below w.heap.size w W5 := by
    have h4 : Below w.heap.size w w4 := ⟨ht.os.trans hb.os, ht.tape.trans hb.tape, ht.output.trans hb.output, by omega, fun k hk => (ht.block k (by omega) (by omega)).trans (hb.block k hk)⟩
    exact h4.trans (hb5.mono (by omega))
  refine ⟨u, m, er, _, rfl, IsTm.keep (fun b h => ⟨h.1.imp id (fun x => by omega), by have := h.2; have := hg.size; show b < W6.heap.size; omega⟩) (fun p hp => ?_) _ hu, (hbb.grown hg hbb.size (fun k e => by cases e; exact hg0)).drew, hE⟩
  refine (World.cell?_of_block (hg.block p.block (by have := hp.2; omega) (fun e => ?_))).trans (hb5.cell hp.2)
  have e' : p.block = g := by simpa using e
  exact hp.1.elim (fun h => by have := hS _ h; omega) (fun h => by omega)

set_option maxRecDepth 100000 in
set_option maxHeartbeats 4000000 in
theorem walked_any (t : Tm) (v : Value) (S : Nat → Prop) (lim : Nat) (w : World) (hb : t.bulk ≤ 390000) (he : t.err = 0) (hlow : t.low 1000000 = true) (hlim : lim ≤ 1000) (htab : Tab w) (hS : ∀ b, S b → b < w.heap.size) (hT : IsTm S w t v) :
    Calls Tryd.prog 45 #[v, .int .i64 lim] w (WalkR S lim t w) := by
  obtain ⟨B, d, A, c, rfl, _⟩ := IsTm.form hT
  have hok := (errT_zero.1 he).1
  have hsz := (errT_zero.1 he).2
  have htp := top_low _ hlow
  have HOK := Lib.hid (And.intro hok (And.intro hlow (And.intro he hsz)))
  have htl := htab.lt
  have HTab := Lib.hid htab
  have HS := Lib.hid hS
  have HT := Lib.hid hT
  have hbs := size_bulk t
  clear hok hlow he hsz htab hS hT
  go_enter Tryd.func45, Tryd.ntmps45
  go_upto_region 1 with fail
  obtain ⟨W, hW, b2, z2, k0, k1⟩ := alloc2_facts w #[.int .i64 t.kind, .int .i64 t.index, .int .i64 t.type.kind, .slice B t.type.args.length d, .slice A t.args.length c] #[.int .i64 0, .int .i64 0, .int .i64 0, .slice none 0 0, .slice none 0 0] 34 34
  rw [← hW]
  obtain ⟨r0, r1, r2, r3, r4, _, _, _, _, _⟩ := k0.facts5
  have HB := Lib.hid (And.intro b2 z2)
  have HK := Lib.hid (And.intro k0 k1)
  have hzW := b2.size
  clear hW b2 k0 k1
  go_wp2_with fail
  refine (checkT_ok (t := t) (w := W) HOK.out.2.2.1 (by omega) (HTab.out.after HB.out.1) (IsTm.keep (fun b h => by have h1 := HS.out b h; omega) (fun p hp => HB.out.1.cell (HS.out _ hp)) _ HT.out)).mono ?_
  rintro e w1 ⟨rfl, hc1⟩
  have B1 := Lib.hid (HB.out.1.trans (hc1.mono hzW))
  have C1 := Lib.hid hc1
  have hz1 := hc1.size
  obtain ⟨s0, s1, s2, s3, s4, _, _, _, _, _⟩ := (HK.out.1.below hc1 HK.out.1.lt).facts5
  clear hc1 r0 r1 r2 r3 r4
  go_wp2_with fail
  refine (measure_any t.bulk t _ w1 (Nat.le_refl _) (by omega) HOK.out.1 (low_mono (by omega) _ HOK.out.2.1) (IsTm.keep (fun b h => by have h1 := HS.out b h; omega) (fun p hp => B1.out.cell (HS.out _ hp)) _ HT.out)).mono ?_
  rintro e w2 ⟨rfl, hc2⟩
  have B2 := Lib.hid (B1.out.trans (hc2.mono (by omega)))
  have C2 := Lib.hid (C1.out.trans (hc2.mono (by omega)))
  have hz2 := hc2.size
  clear hc2 s0 s1 s2 s3 s4
  have e1 : decide ((lim : Int) < 0) = false := decide_eq_false (by omega)
  have e2 : decide ((lim : Int) > 65536) = false := decide_eq_false (by omega)
  have e3 : decide (t.top > 536870912) = false := decide_eq_false (by omega)
  go_upto_region 8 with fail
  obtain ⟨b3, z3, kQ⟩ := new_blk (Below.refl w2.heap.size w2) (Nat.le_refl _) #[.int .i64 lim, .int .i64 0, .int .i64 t.size, .bool false, .int .i64 0] 103
  generalize w2.alloc (Obj.cells #[.int .i64 lim, .int .i64 0, .int .i64 t.size, .bool false, .int .i64 0] 103) = W3 at b3 z3 kQ ⊢
  have B3 := Lib.hid (B2.out.trans (b3.mono (by omega)))
  have C3 := Lib.hid (C2.out.trans (b3.mono (by omega)))
  have KQ := Lib.hid kQ
  obtain ⟨s0, s1, s2, s3, s4, _, _, _, _, _⟩ := (HK.out.1.below C3.out HK.out.1.lt).facts5
  clear b3 kQ
  go_wp2_with fail
  refine (part_any (lim * 5000 + t.size) t _ S w2.heap.size lim 0 0 72 (fun _ => false) #[] 1000000 W3 (by omega) HOK.out.1 rfl (by have := HOK.out.2.2.2; omega) (by omega) (by omega) HOK.out.2.1 (by omega) hlim (HTab.out.after B3.out) (fun b h => by have h1 := HS.out b h; omega) (fun b h => by have h1 := HS.out b h; omega) (by omega) (by have h := KQ.out; simpa [WalkAt] using h)
    (IsTm.keep (fun _ h => h) (fun p hp => B3.out.cell (HS.out _ hp)) _ HT.out) (above_root _ _)).mono ?_
  rintro e w4 ⟨u, v', m, N', er, rfl, hu, hk, ht, hE⟩
  obtain ⟨B4, d4, A4, c4, rfl, _⟩ := IsTm.form hu
  have hz4 := ht.size
  rw [Nat.zero_add] at hk
  have k1 := (HK.out.2.below C3.out HK.out.2.lt).turn ht (by have := HK.out.2.lt; have := HB.out.2; omega)
  have H4 := Lib.hid (And.intro hu (And.intro ht hE))
  clear hu ht hE s0 s1 s2 s3 s4
  go_upto_region 9 with fail
  obtain ⟨b5, z5, k6⟩ := new_blk (Below.refl w4.heap.size w4) (Nat.le_refl _) #[.int .i64 u.kind, .int .i64 u.index, .int .i64 u.type.kind, .slice B4 u.type.args.length d4, .slice A4 u.args.length c4] 34
  have K1 := Lib.hid (k1.below b5 k1.lt)
  have KQ5 := Lib.hid (Blk.below hk b5 (Blk.lt hk))
  generalize w4.alloc (Obj.cells #[.int .i64 u.kind, .int .i64 u.index, .int .i64 u.type.kind, .slice B4 u.type.args.length d4, .slice A4 u.args.length c4] 34) = W5 at b5 z5 k6 K1 KQ5 ⊢
  obtain ⟨s0, s1, s2, s3, s4, _, _, _, _, _⟩ := k6.facts5
  obtain ⟨x0, x1, x2, x3, x4, _, _, _, _, _⟩ := KQ5.out.facts5
  obtain ⟨_, _, _, _, _, f0, f1, f2, f3, f4⟩ := K1.out.facts5
  have H5 := Lib.hid b5
  clear b5 k6 hk k1
  go_region
  all_goals
    go_wp2_with fail
    obtain ⟨y0, y1, y2, y3, y4⟩ := (K1.out.set5 (.int .i64 u.kind) (.int .i64 u.index) (.int .i64 u.type.kind) (.slice B4 u.type.args.length d4) (.slice A4 u.args.length c4)).drew.cells5
    have hg := only_set5 W5 (w.heap.size + 1) (.int .i64 u.kind) (.int .i64 u.index) (.int .i64 u.type.kind) (.slice B4 u.type.args.length d4) (.slice A4 u.args.length c4)
    exact bodyPost_ret (v := .tuple #[.agg #[.int .i64 u.kind, .int .i64 u.index, .int .i64 u.type.kind, .slice B4 u.type.args.length d4, .slice A4 u.args.length c4], .int .i64 m, .int .i64 er]) (by simp [results, Tryd.results45, go_sem, y0, y1, y2, y3, y4]) rfl
      (walked_end (Q := w2.heap.size) HS.out (by omega) B3.out (by have := HB.out.2; omega) z3 H4.out.2.1 H5.out hg H4.out.1 H4.out.2.2.1)
end Go.Proofs.YtifijgihcincfaaDoor
namespace Go.Proofs.YtifijgihcincfaaDoor
open Go.RowKit

/-- What Normal comes to. -/
def NormalR (S : Nat → Prop) (lim : Nat) (t : Tm) (w : World) (e : Ending) (w' : World) : Prop :=
  Below w.heap.size w w' ∧ ((∃ (u : Tm) (m : Nat) (v' : Value), e = .returned (.tuple #[v', .int .i64 m, .int .i64 0]) ∧ IsTm (fun b => (S b ∨ w.heap.size ≤ b) ∧ b < w'.heap.size) w' u v' ∧ Ends 0 (fun _ => false) lim m t u 0) ∨
    (∃ (u : Tm) (m : Nat) (er : Int), (er = 4 ∨ er = 5) ∧ e = .returned (.tuple #[.agg #[.int .i64 0, .int .i64 0, .int .i64 0, .slice none 0 0, .slice none 0 0], .int .i64 0, .int .i64 er]) ∧ Ends 0 (fun _ => false) lim m t u er))
/-- What Step comes to. -/
def StepR1 (S : Nat → Prop) (t : Tm) (w : World) (e : Ending) (w' : World) : Prop :=
  Below w.heap.size w w' ∧ ((∃ (u : Tm) (v' : Value), e = .returned (.tuple #[v', .bool true, .int .i64 0]) ∧ IsTm (fun b => (S b ∨ w.heap.size ≤ b) ∧ b < w'.heap.size) w' u v' ∧ t.next = some u ∧ u.size ≤ 4096) ∨
    (∃ v' : Value, e = .returned (.tuple #[v', .bool false, .int .i64 0]) ∧ IsTm (fun b => (S b ∨ w.heap.size ≤ b) ∧ b < w'.heap.size) w' t v' ∧ t.next = none) ∨
    (e = .returned (.tuple #[.agg #[.int .i64 0, .int .i64 0, .int .i64 0, .slice none 0 0, .slice none 0 0], .bool false, .int .i64 4]) ∧ ∃ v, t.next = some v ∧ 4096 < v.size))

theorem Ends.err {B lim n : Nat} {K : Int → Bool} {t u : Tm} {e : Int} (h : Ends B K lim n t u e) : e = 0 ∨ e = 4 ∨ e = 5 := by
  rcases h.2.2 with h | ⟨_, h | h⟩
  · exact .inl h.1
  · exact .inr (.inr h.1)
  · exact .inr (.inl h.1)

/-- The result is stored. -/
theorem top_end {S : Nat → Prop} {g lo : Nat} {u : Tm} {w W W2 : World} {v : Value} (hS : ∀ b, S b → b < w.heap.size) (hg0 : w.heap.size ≤ g) (hb : Below w.heap.size w W) (hlo : g < lo) (hg : W.grownBy W2 (some g))
    (hu : IsTm (fun b => (S b ∨ lo ≤ b) ∧ b < W.heap.size) W u v) : IsTm (fun b => (S b ∨ w.heap.size ≤ b) ∧ b < W2.heap.size) W2 u v ∧ Below w.heap.size w W2 := by
  refine ⟨IsTm.keep (fun b h => ⟨h.1.imp id (fun x => by omega), by have := h.2; have := hg.size; omega⟩) (fun p hp => World.cell?_of_block (hg.block p.block hp.2 (fun e => ?_))) _ hu, hb.grown hg hb.size (fun k e => by cases e; exact hg0)⟩
  have e' : p.block = g := by simpa using e
  exact hp.1.elim (fun h => by have := hS _ h; omega) (fun h => by omega)

set_option maxRecDepth 100000 in
set_option maxHeartbeats 4000000 in
theorem normal_any (t : Tm) (v : Value) (S : Nat → Prop) (lim : Nat) (w : World) (hb : t.bulk ≤ 390000) (he : t.err = 0) (hlow : t.low 1000000 = true) (hlim : lim ≤ 1000) (htab : Tab w) (hS : ∀ b, S b → b < w.heap.size) (hT : IsTm S w t v) :
    Calls Tryd.prog 12 #[v, .int .i64 lim] w (NormalR S lim t w) := by
  obtain ⟨B, d, A, c, rfl, _⟩ := IsTm.form hT
  have HP := Lib.hid (fun (W : World) (hw : Below w.heap.size w W) => walked_any t _ S lim W hb he hlow hlim (htab.after hw) (fun b h => Nat.lt_of_lt_of_le (hS b h) hw.size) (IsTm.keep (fun _ h => h) (fun p hp => hw.cell (hS _ hp)) _ hT))
  have HS := Lib.hid hS
  clear hb he hlow htab hS hT hlim
  go_enter Tryd.func12, Tryd.ntmps12
  go_upto_region 1 with fail
  obtain ⟨W, hW, b2, z2, k0, k1⟩ := alloc2_facts w #[.int .i64 t.kind, .int .i64 t.index, .int .i64 t.type.kind, .slice B t.type.args.length d, .slice A t.args.length c] #[.int .i64 0, .int .i64 0, .int .i64 0, .slice none 0 0, .slice none 0 0] 34 34
  rw [← hW]
  obtain ⟨r0, r1, r2, r3, r4, _, _, _, _, _⟩ := k0.facts5
  have HB := Lib.hid (And.intro b2 z2)
  have HK := Lib.hid k1
  have hzW := b2.size
  clear hW b2 k0 k1
  go_wp2_with fail
  refine (HP.out W HB.out.1).mono ?_
  rintro e w1 ⟨u, m, er, v', rfl, hu, hb1, hE⟩
  obtain ⟨B1, d1, A1, c1, rfl, _⟩ := IsTm.form hu
  have hz1 := hb1.size
  have HE := Lib.hid (And.intro hu (And.intro hb1 hE))
  have k1 := HK.out.below hb1 HK.out.lt
  clear hu hb1 r0 r1 r2 r3 r4
  go_upto_region 2 with fail
  obtain ⟨b5, z5, k6⟩ := new_blk (Below.refl w1.heap.size w1) (Nat.le_refl _) #[.int .i64 u.kind, .int .i64 u.index, .int .i64 u.type.kind, .slice B1 u.type.args.length d1, .slice A1 u.args.length c1] 34
  have K1 := Lib.hid (k1.below b5 k1.lt)
  generalize w1.alloc (Obj.cells #[.int .i64 u.kind, .int .i64 u.index, .int .i64 u.type.kind, .slice B1 u.type.args.length d1, .slice A1 u.args.length c1] 34) = W5 at b5 z5 k6 K1 ⊢
  obtain ⟨s0, s1, s2, s3, s4, _, _, _, _, _⟩ := k6.facts5
  obtain ⟨_, _, _, _, _, f0, f1, f2, f3, f4⟩ := K1.out.facts5
  have H5 := Lib.hid (HB.out.1.trans ((HE.out.2.1.trans (b5.mono hz1)).mono hzW))
  have U5 := Lib.hid (show IsTm (fun b => (S b ∨ W.heap.size ≤ b) ∧ b < W5.heap.size) W5 u _ from IsTm.keep (fun b h => ⟨h.1, by have := h.2; omega⟩) (fun p hp => b5.cell hp.2) _ HE.out.1)
  clear b5 k6 k1
  by_cases her : er = 0
  · subst her
    clear hE
    go_wp2_with fail
    obtain ⟨y0, y1, y2, y3, y4⟩ := (K1.out.set5 (.int .i64 u.kind) (.int .i64 u.index) (.int .i64 u.type.kind) (.slice B1 u.type.args.length d1) (.slice A1 u.args.length c1)).cells5
    have hg := only_set5 W5 (w.heap.size + 1) (.int .i64 u.kind) (.int .i64 u.index) (.int .i64 u.type.kind) (.slice B1 u.type.args.length d1) (.slice A1 u.args.length c1)
    have hend := top_end HS.out (by omega) H5.out (lo := W.heap.size) (by omega) hg U5.out
    exact bodyPost_ret (v := .tuple #[.agg #[.int .i64 u.kind, .int .i64 u.index, .int .i64 u.type.kind, .slice B1 u.type.args.length d1, .slice A1 u.args.length c1], .int .i64 m, .int .i64 0]) (by simp [results, Tryd.results12, go_sem, y0, y1, y2, y3, y4]) rfl
      ⟨hend.2, .inl ⟨u, m, _, rfl, hend.1, HE.out.2.2⟩⟩
  · have hne := hE.err.resolve_left her
    have e1 : (er != 0) = true := by simpa using her
    clear her hE
    go_wp2_with fail
    obtain ⟨y0, y1, y2, y3, y4⟩ := (K1.out.set5 (.int .i64 0) (.int .i64 0) (.int .i64 0) (.slice none 0 0) (.slice none 0 0)).cells5
    have hg := only_set5 W5 (w.heap.size + 1) (.int .i64 0) (.int .i64 0) (.int .i64 0) (.slice none 0 0) (.slice none 0 0)
    exact bodyPost_ret (v := .tuple #[.agg #[.int .i64 0, .int .i64 0, .int .i64 0, .slice none 0 0, .slice none 0 0], .int .i64 0, .int .i64 er]) (by simp [results, Tryd.results12, go_sem, y0, y1, y2, y3, y4]) rfl
      ⟨(top_end HS.out (by omega) H5.out (lo := W.heap.size) (by omega) hg U5.out).2, .inr ⟨u, m, er, hne, rfl, HE.out.2.2⟩⟩

set_option maxRecDepth 100000 in
set_option maxHeartbeats 4000000 in
theorem stepTop_any (t : Tm) (v : Value) (S : Nat → Prop) (w : World) (hb : t.bulk ≤ 390000) (he : t.err = 0) (hlow : t.low 1000000 = true) (htab : Tab w) (hS : ∀ b, S b → b < w.heap.size) (hT : IsTm S w t v) :
    Calls Tryd.prog 31 #[v] w (StepR1 S t w) := by
  obtain ⟨B, d, A, c, rfl, _⟩ := IsTm.form hT
  have HP := Lib.hid (fun (W : World) (hw : Below w.heap.size w W) => walked_any t _ S 1 W hb he hlow (by omega) (htab.after hw) (fun b h => Nat.lt_of_lt_of_le (hS b h) hw.size) (IsTm.keep (fun _ h => h) (fun p hp => hw.cell (hS _ hp)) _ hT))
  have HS := Lib.hid hS
  clear hb he hlow htab hS hT
  go_enter Tryd.func31, Tryd.ntmps31
  go_upto_region 1 with fail
  obtain ⟨W, hW, b2, z2, k0, k1⟩ := alloc2_facts w #[.int .i64 t.kind, .int .i64 t.index, .int .i64 t.type.kind, .slice B t.type.args.length d, .slice A t.args.length c] #[.int .i64 0, .int .i64 0, .int .i64 0, .slice none 0 0, .slice none 0 0] 34 34
  rw [← hW]
  obtain ⟨r0, r1, r2, r3, r4, _, _, _, _, _⟩ := k0.facts5
  have HB := Lib.hid (And.intro b2 z2)
  have HK := Lib.hid k1
  have hzW := b2.size
  clear hW b2 k0 k1
  go_wp2_with fail
  refine (HP.out W HB.out.1).mono ?_
  rintro e w1 ⟨u, m, er, v', rfl, hu, hb1, hE⟩
  obtain ⟨B1, d1, A1, c1, rfl, _⟩ := IsTm.form hu
  have hz1 := hb1.size
  have HE := Lib.hid (And.intro hu (And.intro hb1 hE))
  have k1 := HK.out.below hb1 HK.out.lt
  clear hu hb1 r0 r1 r2 r3 r4
  go_upto_region 2 with fail
  obtain ⟨b5, z5, k6⟩ := new_blk (Below.refl w1.heap.size w1) (Nat.le_refl _) #[.int .i64 u.kind, .int .i64 u.index, .int .i64 u.type.kind, .slice B1 u.type.args.length d1, .slice A1 u.args.length c1] 34
  have K1 := Lib.hid (k1.below b5 k1.lt)
  generalize w1.alloc (Obj.cells #[.int .i64 u.kind, .int .i64 u.index, .int .i64 u.type.kind, .slice B1 u.type.args.length d1, .slice A1 u.args.length c1] 34) = W5 at b5 z5 k6 K1 ⊢
  obtain ⟨s0, s1, s2, s3, s4, _, _, _, _, _⟩ := k6.facts5
  obtain ⟨_, _, _, _, _, f0, f1, f2, f3, f4⟩ := K1.out.facts5
  have H5 := Lib.hid (HB.out.1.trans ((HE.out.2.1.trans (b5.mono hz1)).mono hzW))
  have U5 := Lib.hid (show IsTm (fun b => (S b ∨ W.heap.size ≤ b) ∧ b < W5.heap.size) W5 u _ from IsTm.keep (fun b h => ⟨h.1, by have := h.2; omega⟩) (fun p hp => b5.cell hp.2) _ HE.out.1)
  have hg := fun x0 x1 x2 x3 x4 => only_set5 W5 (w.heap.size + 1) x0 x1 x2 x3 x4
  have HG := Lib.hid hg
  clear b5 k6 k1 hg
  by_cases h4 : er = 4
  · subst h4
    have hnx : ∃ x, t.next = some x ∧ 4096 < x.size := by
      obtain ⟨hs, hm, h⟩ := hE
      rcases h with h | ⟨_, h | h⟩
      · exact absurd h.1 (by decide)
      · exact absurd h.1 (by decide)
      · obtain ⟨_, h1, x, h2, h3⟩ := h
        obtain rfl : m = 0 := by omega
        have e : t = u := hs
        exact ⟨x, e ▸ h2, by omega⟩
    have HNX := Lib.hid hnx
    clear hE hnx
    go_wp2_with fail
    obtain ⟨y0, y1, y2, y3, y4⟩ := (K1.out.set5 (.int .i64 0) (.int .i64 0) (.int .i64 0) (.slice none 0 0) (.slice none 0 0)).cells5
    exact bodyPost_ret (v := .tuple #[.agg #[.int .i64 0, .int .i64 0, .int .i64 0, .slice none 0 0, .slice none 0 0], .bool false, .int .i64 4]) (by simp [results, Tryd.results31, go_sem, y0, y1, y2, y3, y4]) rfl
      ⟨(top_end HS.out (by omega) H5.out (lo := W.heap.size) (by omega) (HG.out _ _ _ _ _) U5.out).2, .inr (.inr ⟨rfl, HNX.out⟩)⟩
  · have h05 : er = 0 ∨ er = 5 := by rcases hE.err with h | h | h; exact .inl h; exact (h4 h).elim; exact .inr h
    have hcase : (m = 1 ∧ t.next = some u ∧ u.size ≤ 4096) ∨ (m = 0 ∧ u = t ∧ t.next = none) := by
      obtain ⟨hs, hm, h⟩ := hE
      have h01 : m = 0 ∨ m = 1 := by omega
      rcases h01 with rfl | rfl
      · have e : t = u := hs
        rcases h with ⟨_, h | h⟩ | ⟨_, h | h⟩
        · exact .inr ⟨rfl, e.symm, by rw [e]; exact h⟩
        · cases h
        · omega
        · exact (h4 h.1).elim
      · obtain ⟨x, hx, _, h1, h2⟩ := hs
        have e : t = x := hx
        exact .inl ⟨rfl, by rw [e]; exact h1, by omega⟩
    have hgo : ((er != 0) && (er != 5)) = false := by rcases h05 with rfl | rfl <;> rfl
    have HC := Lib.hid hcase
    clear hE h4 hcase
    rcases h05 with rfl | rfl
    all_goals
      rcases HC.out with ⟨rfl, hc⟩ | ⟨rfl, hc⟩
      all_goals
        have HC2 := Lib.hid hc
        clear hc
        go_wp2_with fail
        obtain ⟨y0, y1, y2, y3, y4⟩ := (K1.out.set5 (.int .i64 u.kind) (.int .i64 u.index) (.int .i64 u.type.kind) (.slice B1 u.type.args.length d1) (.slice A1 u.args.length c1)).cells5
        have hend := top_end HS.out (by omega) H5.out (lo := W.heap.size) (by omega) (HG.out (.int .i64 u.kind) (.int .i64 u.index) (.int .i64 u.type.kind) (.slice B1 u.type.args.length d1) (.slice A1 u.args.length c1)) U5.out
        first
          | exact bodyPost_ret (v := .tuple #[.agg #[.int .i64 u.kind, .int .i64 u.index, .int .i64 u.type.kind, .slice B1 u.type.args.length d1, .slice A1 u.args.length c1], .bool true, .int .i64 0]) (by simp [results, Tryd.results31, go_sem, y0, y1, y2, y3, y4]) rfl
              ⟨hend.2, .inl ⟨u, _, rfl, hend.1, HC2.out⟩⟩
          | exact bodyPost_ret (v := .tuple #[.agg #[.int .i64 u.kind, .int .i64 u.index, .int .i64 u.type.kind, .slice B1 u.type.args.length d1, .slice A1 u.args.length c1], .bool false, .int .i64 0]) (by simp [results, Tryd.results31, go_sem, y0, y1, y2, y3, y4]) rfl
              ⟨hend.2, .inr (.inl ⟨_, rfl, HC2.out.1 ▸ hend.1, HC2.out.2⟩)⟩
end Go.Proofs.YtifijgihcincfaaDoor
