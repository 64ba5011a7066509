/- Default and Apply. -/
import Derived.Test.YtcidmhjojkongaaDoorDefault
namespace Go.Proofs.YtcidmhjojkongaaDoor
open Go.RowKit

def DefaultR (S : Nat → Prop) (T : Ty) (w : World) (e : Ending) (w' : World) : Prop :=
  Below w.heap.size w w' ∧ if T.err = 0 then ∃ v, e = .returned (.tuple #[v, .int .i64 0]) ∧ IsTm (fun b => (S b ∨ w.heap.size ≤ b) ∧ b < w'.heap.size) w' T.dflt v
    else e = .returned (.tuple #[.agg #[.int .i64 0, .int .i64 0, .int .i64 0, .slice none 0 0, .slice none 0 0], .int .i64 T.err])

set_option maxRecDepth 100000 in
set_option maxHeartbeats 2000000 in
theorem default_any (S : Nat → Prop) (T : Ty) (v : Value) (w : World) (hS : ∀ b, S b → b < w.heap.size) (hsz : T.nodes ≤ 100000) (hT : IsTy S w T v) :
    Calls Tryd.prog 30 #[v] w (DefaultR S T w) := by
  have HS := Lib.hid hS
  obtain ⟨A, c, rfl⟩ := hT.form
  obtain ⟨W, hW, hb, hz, k0, k1⟩ := box25_facts w (.int .i64 T.kind) (.slice A T.args.length c)
  have hTW := (IsTy.keep (S' := (· < w.heap.size)) hS (fun _ _ => rfl) _ hT).boxed hb
  have HT := Lib.hid hT
  clear hS
  go_enter Tryd.func30, Tryd.ntmps30
  go_wp2_with fail
  rw [← hW]
  clear hW
  refine (check_any T _ W hsz hTW).mono ?_
  rintro e w1 ⟨rfl, hb1⟩
  have hs1 := hb1.size
  have hb01 : Below w.heap.size w w1 := hb.trans (hb1.mono hb.size)
  have k0 := k0.below hb1 k0.lt
  have k1 := k1.below hb1 k1.lt
  have HZ := Lib.hid (And.intro hz hb01)
  clear hT hTW hz
  by_cases he : T.err = 0
  · have HE := Lib.hid he
    rw [he]
    clear he
    obtain ⟨q0, q1, _, _⟩ := k0.facts2
    go_wp2_with fail
    refine (defaultOf_in 100000 S T _ w1 hsz (Nat.le_refl _) (err_zero.1 HE.out).1 (fun b h => Nat.lt_of_lt_of_le (HS.out b h) HZ.out.2.size) (IsTy.keep (fun _ h => h) (fun p hp => HZ.out.2.cell (HS.out _ hp)) _ HT.out)).mono ?_
    rintro e w2 ⟨v2, rfl, ht2, hb2⟩
    obtain ⟨B2, d2, A2, c2, rfl, _⟩ := ht2.form
    have k1 := k1.below hb2 k1.lt
    obtain ⟨r0, r1, r2, r3, r4, f0, f1, f2, f3, f4⟩ := k1.facts5
    have HT2 := Lib.hid ht2
    clear ht2 q0 q1
    go_wp2_with fail
    obtain ⟨z0, z1, z2, z3, z4⟩ := (k1.set5 (.int .i64 T.dflt.kind) (.int .i64 T.dflt.index) (.int .i64 T.dflt.type.kind) (.slice B2 T.dflt.type.args.length d2) (.slice A2 T.dflt.args.length c2)).cells5
    refine bodyPost_ret (v := .tuple #[.agg #[.int .i64 T.dflt.kind, .int .i64 T.dflt.index, .int .i64 T.dflt.type.kind, .slice B2 T.dflt.type.args.length d2, .slice A2 T.dflt.args.length c2], .int .i64 0]) (by simp [results, Tryd.results30, go_sem, z0, z1, z2, z3, z4]) rfl ?_
    have hg := only_set5 w2 (w.heap.size + 1) (.int .i64 T.dflt.kind) (.int .i64 T.dflt.index) (.int .i64 T.dflt.type.kind) (.slice B2 T.dflt.type.args.length d2) (.slice A2 T.dflt.args.length c2)
    obtain ⟨hz, hb01⟩ := HZ.out
    have hb02 : Below w.heap.size w w2 := hb01.trans (hb2.mono hb01.size)
    refine ⟨hb02.grown hg hb02.size (fun k e => by cases e; omega), ?_⟩
    rw [if_pos HE.out]
    have hne : ∀ b, (S b ∨ w1.heap.size ≤ b) → b ≠ w.heap.size + 1 := fun b h => by
      rcases h with h | h
      · have := HS.out b h; omega
      · omega
    exact ⟨_, rfl, IsTm.keep (fun b h => ⟨h.1.imp id (fun h => by omega), Nat.lt_of_lt_of_le h.2 hg.size⟩) (fun p hp => World.cell?_of_block (hg.block p.block hp.2 (fun e => hne _ hp.1 (by simpa using e)))) _ HT2.out⟩
  · have e2 : (T.err != 0) = true := by simp [he]
    have HE := Lib.hid he
    clear he
    obtain ⟨r0, r1, r2, r3, r4, f0, f1, f2, f3, f4⟩ := k1.facts5
    go_wp2_with fail
    obtain ⟨z0, z1, z2, z3, z4⟩ := (k1.set5 (.int .i64 0) (.int .i64 0) (.int .i64 0) (.slice none 0 0) (.slice none 0 0)).cells5
    refine bodyPost_ret (v := .tuple #[.agg #[.int .i64 0, .int .i64 0, .int .i64 0, .slice none 0 0, .slice none 0 0], .int .i64 T.err]) (by simp [results, Tryd.results30, go_sem, z0, z1, z2, z3, z4]) rfl ?_
    have hg := only_set5 w1 (w.heap.size + 1) (.int .i64 0) (.int .i64 0) (.int .i64 0) (.slice none 0 0) (.slice none 0 0)
    refine ⟨HZ.out.2.grown hg HZ.out.2.size (fun k e => by cases e; omega), ?_⟩
    rw [if_neg HE.out]

def errsT : List Tm → Int
  | [] => 0
  | t :: r => if t.err = 0 then errsT r else t.err
def appErr (f : Tm) (l : List Tm) : Int := if f.err = 0 then if errsT l = 0 then if f.size + (sizeAllT l + l.length) ≤ 4096 then 0 else 4 else errsT l else f.err
def appTm (f : Tm) (l : List Tm) : Tm := l.foldl (fun f a => .mk 3 0 .zero [f, a]) f
theorem appTm_take {f : Tm} {l : List Tm} {j : Nat} (hj : j < l.length) : appTm f (l.take (j + 1)) = .mk 3 0 .zero [appTm f (l.take j), l[j]] := by
  unfold appTm
  rw [List.take_succ_eq_append_getElem hj, List.foldl_append]
  rfl
theorem errsT_take {l : List Tm} {j : Nat} (hj : j < l.length) (h : errsT (l.take j) = 0) (he : l[j].err = 0) : errsT (l.take (j + 1)) = 0 := by
  induction l generalizing j with
  | nil => simp at hj
  | cons t r ih =>
    cases j with
    | zero => simp at he; simp [errsT, he]
    | succ j =>
      simp only [List.take_succ_cons, errsT] at h ⊢
      split at h
      · rename_i h0
        rw [if_pos h0]
        exact ih (by simpa using hj) h (by simpa using he)
      · rename_i h0; exact absurd h h0
theorem errsT_stop {l : List Tm} {j : Nat} (hj : j < l.length) (h : errsT (l.take j) = 0) (he : l[j].err ≠ 0) : errsT l = l[j].err := by
  induction l generalizing j with
  | nil => simp at hj
  | cons t r ih =>
    cases j with
    | zero => simp at he; simp [errsT, he]
    | succ j =>
      simp only [List.take_succ_cons, errsT] at h ⊢
      split at h
      · rename_i h0
        rw [if_pos h0]
        simpa using ih (by simpa using hj) h (by simpa using he)
      · rename_i h0; exact absurd h h0
theorem sizeAllT_take (l : List Tm) (j : Nat) (hj : j < l.length) : sizeAllT (l.take (j + 1)) = sizeAllT (l.take j) + l[j].size := by
  rw [List.take_succ_eq_append_getElem hj, sizeAllT_append]
  simp [sizeAllT]
theorem sizeAllT_take_le (l : List Tm) (j : Nat) : sizeAllT (l.take j) ≤ sizeAllT l := by
  have := sizeAllT_append (l.take j) (l.drop j)
  rw [List.take_append_drop] at this
  omega

def ApplyR (f : Tm) (l : List Tm) (w : World) (e : Ending) (w' : World) : Prop :=
  Below w.heap.size w w' ∧ if appErr f l = 0 then ∃ v, e = .returned (.tuple #[v, .int .i64 0]) ∧ IsTm (· < w'.heap.size) w' (appTm f l) v
    else e = .returned (.tuple #[.agg #[.int .i64 0, .int .i64 0, .int .i64 0, .slice none 0 0, .slice none 0 0], .int .i64 (appErr f l)])

theorem box55_facts (w : World) (x0 x1 x2 x3 x4 : Value) : ∃ W, W = (w.alloc (Obj.cells #[x0, x1, x2, x3, x4] 28)).alloc (Obj.cells #[.int .i64 0, .int .i64 0, .int .i64 0, .slice none 0 0, .slice none 0 0] 28) ∧
    Below w.heap.size w W ∧ W.heap.size = w.heap.size + 2 ∧ Blk W w.heap.size 28 #[x0, x1, x2, x3, x4] ∧ Blk W (w.heap.size + 1) 28 #[.int .i64 0, .int .i64 0, .int .i64 0, .slice none 0 0, .slice none 0 0] := by
  obtain ⟨b1, z1, k1⟩ := new_blk (Below.refl w.heap.size w) (Nat.le_refl _) #[x0, x1, x2, x3, x4] 28
  generalize w.alloc (Obj.cells #[x0, x1, x2, x3, x4] 28) = W1 at b1 z1 k1 ⊢
  obtain ⟨b2, z2, k2⟩ := new_blk b1 b1.size #[.int .i64 0, .int .i64 0, .int .i64 0, .slice none 0 0, .slice none 0 0] 28
  have k1 := k1.alloc (Obj.cells #[.int .i64 0, .int .i64 0, .int .i64 0, .slice none 0 0, .slice none 0 0] 28)
  rw [z1] at k2
  exact ⟨_, rfl, b2, by omega, k1, k2⟩

theorem apply_err {f : Tm} {l : List Tm} {w w1 : World} {er : Int} (hb : Below w.heap.size w w1) (he : appErr f l = er) (h0 : er ≠ 0) (a b c d x : Value) :
    ApplyR f l w (.returned (.tuple #[.agg #[.int .i64 0, .int .i64 0, .int .i64 0, .slice none 0 0, .slice none 0 0], .int .i64 er]))
      (((((w1.setCell ⟨w.heap.size + 1, 0, none⟩ a).setCell ⟨w.heap.size + 1, 1, none⟩ b).setCell ⟨w.heap.size + 1, 2, none⟩ c).setCell ⟨w.heap.size + 1, 3, none⟩ d).setCell ⟨w.heap.size + 1, 4, none⟩ x) := by
  refine ⟨hb.grown (only_set5 w1 (w.heap.size + 1) a b c d x) hb.size (fun k e => by cases e; omega), ?_⟩
  rw [he, if_neg h0]

def AppRel (w : World) (f : Tm) (l : List Tm) (j : Nat) (wr : World) : Prop :=
  ∃ B d A c, Blk wr w.heap.size 28 #[.int .i64 (appTm f (l.take j)).kind, .int .i64 (appTm f (l.take j)).index, .int .i64 (appTm f (l.take j)).type.kind, .slice B (appTm f (l.take j)).type.args.length d, .slice A (appTm f (l.take j)).args.length c] ∧
    IsTm (fun b => (b < w.heap.size ∨ w.heap.size + 2 ≤ b) ∧ b < wr.heap.size) wr (appTm f (l.take j)) (.agg #[.int .i64 (appTm f (l.take j)).kind, .int .i64 (appTm f (l.take j)).index, .int .i64 (appTm f (l.take j)).type.kind, .slice B (appTm f (l.take j)).type.args.length d, .slice A (appTm f (l.take j)).args.length c]) ∧
    Blk wr (w.heap.size + 1) 28 #[.int .i64 0, .int .i64 0, .int .i64 0, .slice none 0 0, .slice none 0 0] ∧ Below w.heap.size w wr

/-- One application more. -/
theorem app_step {w wr : World} {f : Tm} {l : List Tm} {j : Nat} {g0 g1 g2 g3 g4 a0 a1 a2 a3 a4 : Value} (hj : j < l.length) (hb : Blk wr w.heap.size 28 #[g0, g1, g2, g3, g4])
    (hf : IsTm (fun b => (b < w.heap.size ∨ w.heap.size + 2 ≤ b) ∧ b < wr.heap.size) wr (appTm f (l.take j)) (.agg #[g0, g1, g2, g3, g4])) (ha : IsTm (· < w.heap.size) wr l[j] (.agg #[a0, a1, a2, a3, a4]))
    (k1 : Blk wr (w.heap.size + 1) 28 #[.int .i64 0, .int .i64 0, .int .i64 0, .slice none 0 0, .slice none 0 0]) (hbel : Below w.heap.size w wr) {m : Nat} (hm : m = wr.heap.size + 1) :
    AppRel w f l (j + 1) ((((((((wr.alloc (.cells #[a0, a1, a2, a3, a4] 28)).alloc (.cells #[g0, g1, g2, g3, g4, a0, a1, a2, a3, a4] 28)).setCell ⟨w.heap.size, 0, none⟩ (.int .i64 3)).setCell ⟨w.heap.size, 1, none⟩ (.int .i64 0)).setCell ⟨w.heap.size, 2, none⟩ (.int .i64 0)).setCell ⟨w.heap.size, 3, none⟩ (.slice none 0 0)).setCell
      ⟨w.heap.size, 4, none⟩ (.slice (some ⟨m, 0, none⟩) 2 2))) := by
  have hz := hbel.size
  have hz1 := k1.lt
  have s1 := World.size_alloc wr (.cells #[a0, a1, a2, a3, a4] 28)
  have g1' : wr.grownBy (wr.alloc (.cells #[a0, a1, a2, a3, a4] 28)) none := World.grownBy_alloc _ _ _
  generalize wr.alloc (.cells #[a0, a1, a2, a3, a4] 28) = W1 at s1 g1' ⊢
  have s2 := World.size_alloc W1 (.cells #[g0, g1, g2, g3, g4, a0, a1, a2, a3, a4] 28)
  have g2' : wr.grownBy (W1.alloc (.cells #[g0, g1, g2, g3, g4, a0, a1, a2, a3, a4] 28)) none := only_trans g1' (World.grownBy_alloc _ _ _)
  have kb := Blk.new W1 28 #[g0, g1, g2, g3, g4, a0, a1, a2, a3, a4]
  rw [s1, ← hm] at kb
  generalize W1.alloc (.cells #[g0, g1, g2, g3, g4, a0, a1, a2, a3, a4] 28) = W2 at s2 g2' kb ⊢
  have hg := only_set5 W2 w.heap.size (.int .i64 3) (.int .i64 0) (.int .i64 0) (.slice none 0 0) (.slice (some ⟨m, 0, none⟩) 2 2)
  have kx := (hb.grown g2' (by simp)).set5 (.int .i64 3) (.int .i64 0) (.int .i64 0) (.slice none 0 0) (.slice (some ⟨m, 0, none⟩) 2 2)
  have hs := hg.size
  have hkeep : ∀ p : Addr, p.block ≠ w.heap.size → p.block < wr.heap.size → World.cell? _ p = wr.cell? p := fun p h1 h2 => (World.cell?_of_block (hg.block p.block (by omega) (by simp; omega))).trans (World.cell?_of_block (g2'.block p.block h2 (by simp)))
  unfold AppRel
  rw [appTm_take hj]
  refine ⟨none, 0, some ⟨m, 0, none⟩, 2, kx, isTm_iff.2 ⟨rfl, rfl, IsTy.leaf _ _ _, ?_⟩, (k1.grown g2' (by simp)).grown hg (by simp), (hbel.grown g2' hz (by simp)).grown hg (by have := g2'.size; omega) (fun k e => by cases e; exact Nat.le_refl _)⟩
  refine Rep.Sl.of_blk (R := TmR) (S := fun b => (b < w.heap.size ∨ w.heap.size + 2 ≤ b) ∧ b < wr.heap.size) (kb.grown hg (by simp; omega)) (tm_cons (IsTm.keep (fun _ h => h) (fun p hp => hkeep p (by omega) hp.2) _ hf)
    (tm_one (IsTm.keep (fun b h => by have h : b < w.heap.size := h; omega) (fun p hp => hkeep p (by have hp : p.block < w.heap.size := hp; omega) (by have hp : p.block < w.heap.size := hp; omega)) _ ha))) (fun b h => by omega) (by omega) rfl

set_option maxRecDepth 100000 in
set_option maxHeartbeats 4000000 in
theorem apply_any (f : Tm) (l : List Tm) (v s : Value) (w : World) (htab : Tab w) (hfz : f.bulk ≤ 100000) (hlz : bulkAll l ≤ 100000) (hT : IsTm (· < w.heap.size) w f v) (hl : TmR.Sl (· < w.heap.size) w l s) :
    Calls Tryd.prog 28 #[v, s] w (ApplyR f l w) := by
  obtain ⟨B, d, A, c, rfl, _, _⟩ := hT.parts
  obtain ⟨A0, c0, rfl⟩ := hl.form
  obtain ⟨W, hW, hb, hz, k0, k1⟩ := box55_facts w (.int .i64 f.kind) (.int .i64 f.index) (.int .i64 f.type.kind) (.slice B f.type.args.length d) (.slice A f.args.length c)
  have hTW := hT.boxed hb
  have HT := Lib.hid hT
  have HL := Lib.hid hl
  have HTab := Lib.hid (htab.after hb)
  have hll := bulkAll_len l
  have hfs := size_bulk f
  have hls := sizeAll_bulk l
  clear htab hl
  go_enter Tryd.func28, Tryd.ntmps28
  go_wp2_with fail
  rw [← hW]
  clear hW
  refine (sizeT_any f _ W hfz HTab.out hTW).mono ?_
  rintro e w1 ⟨rfl, hb1⟩
  have hs1 := hb1.size
  have hb01 : Below w.heap.size w w1 := hb.trans (hb1.mono hb.size)
  have k0 := k0.below hb1 k0.lt
  have k1 := k1.below hb1 k1.lt
  have hz1 : w.heap.size + 2 ≤ w1.heap.size := by omega
  clear hT hTW hz
  by_cases he : f.err = 0
  · have hcnt := errT_count he
    have HE := Lib.hid he
    rw [he, hcnt]
    clear he hcnt
    go_wp2_with fail
    go_loopw [6, 25] (fun tot ix wr => ∃ j : Nat, j ≤ l.length ∧ ix = .int .i64 j ∧ tot = .int .i64 ((f.size + (sizeAllT (l.take j) + j) : Nat) : Int) ∧ errsT (l.take j) = 0 ∧ Below w1.heap.size w1 wr) (fun _ ix _ => l.length - (intOf ix).toNat)
    case atStart => exact ⟨0, by omega, rfl, by simp [sizeAllT], rfl, Below.refl _ _⟩
    case round =>
      obtain ⟨j, hj, rfl, rfl, herr, hbw⟩ := hrel
      have HER := Lib.hid herr
      have hbs := hbw.size
      have hB : Below w.heap.size w wr := hb01.trans (hbw.mono hb01.size)
      have htl := sizeAllT_take_le l j
      clear herr
      by_cases hlt : j < l.length
      · have hl1 : TmR.Sl (· < w.heap.size) wr l (.slice A0 l.length c0) := HL.out.keep (fun _ h => h) (fun p hp => hB.cell hp)
        obtain ⟨a, rfl, ha, hat⟩ := hl1.get j hlt
        obtain ⟨B1, d1, A1, c1, q0, q1, q2, q3, q4, hx⟩ := at_tm hat
        simp only [show TmR.n = 5 from rfl] at q0 q1 q2 q3 q4
        have hbj := bulkAll_get l j hlt
        have htk := sizeAllT_take l j hlt
        have htl2 := sizeAllT_take_le l (j + 1)
        have hbx := below_box wr (Obj.cells #[.int .i64 l[j].kind, .int .i64 l[j].index, .int .i64 l[j].type.kind, .slice B1 l[j].type.args.length d1, .slice A1 l[j].args.length c1] 28)
        have hx1 := (IsTm.keep (S' := (· < wr.heap.size)) (fun b h => by have h : b < w.heap.size := h; omega) (fun _ _ => rfl) _ hx).boxed hbx
        have HX := Lib.hid (And.intro hx1 (And.intro hbx htk))
        clear hl1 hat hx hx1 htk hbx
        by_cases hej : l[j].err = 0
        · have hcj := errT_count hej
          have HJ := Lib.hid (And.intro hej hcj)
          clear hej hcj
          go_wp2_with fail
          refine (sizeT_any l[j] _ _ (by omega) ((HTab.out.after hb1).below (hbw.trans (HX.out.2.1.mono hbs)) (HTab.out.after hb1).lt) HX.out.1).mono ?_
          rintro e w2 ⟨rfl, hb2⟩
          rw [HJ.out.1, HJ.out.2]
          have hsum : f.size + (sizeAllT (l.take j) + j) + (l[j].size + 1) ≤ 400000 := by have := HX.out.2.2; omega
          go_wp2_with fail
          refine ⟨⟨j + 1, by omega, by go_num, ?_, errsT_take hlt HER.out HJ.out.1, hbw.trans ((HX.out.2.1.trans (hb2.mono HX.out.2.1.size)).mono hbs)⟩, by simp [intOf]; omega⟩
          rw [HX.out.2.2]; go_num
        · have e2 : (l[j].err != 0) = true := by simp [hej]
          have HS := Lib.hid (And.intro (errsT_stop hlt HER.out hej) hej)
          clear hej
          go_wp2_with fail
          refine (sizeT_any l[j] _ _ (by omega) ((HTab.out.after hb1).below (hbw.trans (HX.out.2.1.mono hbs)) (HTab.out.after hb1).lt) HX.out.1).mono ?_
          rintro e w2 ⟨rfl, hb2⟩
          have hb12 : Below w1.heap.size w1 w2 := hbw.trans ((HX.out.2.1.trans (hb2.mono HX.out.2.1.size)).mono hbs)
          have k1 := k1.below hb12 (by omega)
          obtain ⟨r0, r1, r2, r3, r4, f0, f1, f2, f3, f4⟩ := k1.facts5
          go_wp2_with fail
          obtain ⟨z0, z1, z2, z3, z4⟩ := (k1.set5 (.int .i64 0) (.int .i64 0) (.int .i64 0) (.slice none 0 0) (.slice none 0 0)).cells5
          refine bodyPost_ret (v := .tuple #[.agg #[.int .i64 0, .int .i64 0, .int .i64 0, .slice none 0 0, .slice none 0 0], .int .i64 l[j].err]) (by simp [results, Tryd.results28, go_sem, z0, z1, z2, z3, z4]) rfl ?_
          exact apply_err (hb01.trans (hb12.mono hb01.size)) (by unfold appErr; rw [if_pos HE.out, HS.out.1, if_neg HS.out.2]) HS.out.2 _ _ _ _ _
      · have hjl : j = l.length := by omega
        subst hjl
        rw [List.take_length] at HER ⊢
        have k0 := k0.below hbw (by omega)
        have k1 := k1.below hbw (by omega)
        by_cases hgt : f.size + (sizeAllT l + l.length) ≤ 4096
        · have hd : decide ((4096 : Int) < ((f.size + (sizeAllT l + l.length) : Nat) : Int)) = false := by simp; omega
          have hr : appErr f l = 0 := by unfold appErr; rw [if_pos HE.out, if_pos HER.out, if_pos hgt]
          have HR := Lib.hid hr
          clear hr
          go_wp2_with fail
          go_loopw [48] (fun ix wq => ∃ j : Nat, j ≤ l.length ∧ ix = .int .i64 j ∧ AppRel w f l j wq) (fun ix _ => l.length - (intOf ix).toNat)
          case atStart => exact ⟨0, by omega, rfl, B, d, A, c, k0, IsTm.keep (fun b h => ⟨.inl h, by have h : b < w.heap.size := h; omega⟩) (fun p hp => hB.cell hp) _ HT.out, k1, hB⟩
          case round =>
            obtain ⟨j, hj, rfl, B2, d2, A2, c2, kx, hx, ky, hBq⟩ := hrel
            have hqs := hBq.size
            have hql := ky.lt
            by_cases hlt : j < l.length
            · have hl1 : TmR.Sl (· < w.heap.size) wr (l) (.slice A0 l.length c0) := HL.out.keep (fun _ h => h) (fun p hp => hBq.cell hp)
              obtain ⟨a, rfl, ha, hat⟩ := hl1.get j hlt
              obtain ⟨B1, d1, A1, c1, q0, q1, q2, q3, q4, hxa⟩ := at_tm hat
              simp only [show TmR.n = 5 from rfl] at q0 q1 q2 q3 q4
              have u0 := fun o => (kx.alloc o).facts5.1
              have u1 := fun o => (kx.alloc o).facts5.2.1
              have u2 := fun o => (kx.alloc o).facts5.2.2.1
              have u3 := fun o => (kx.alloc o).facts5.2.2.2.1
              have u4 := fun o => (kx.alloc o).facts5.2.2.2.2.1
              have v0 := fun o o' => ((kx.alloc o).alloc o').facts5.1
              have v1 := fun o o' => ((kx.alloc o).alloc o').facts5.2.1
              have v2 := fun o o' => ((kx.alloc o).alloc o').facts5.2.2.1
              have v3 := fun o o' => ((kx.alloc o).alloc o').facts5.2.2.2.1
              have v4 := fun o o' => ((kx.alloc o).alloc o').facts5.2.2.2.2.1
              have f0 := fun o o' => ((kx.alloc o).alloc o').facts5.2.2.2.2.2.1
              have f1 := fun o o' => ((kx.alloc o).alloc o').facts5.2.2.2.2.2.2.1
              have f2 := fun o o' => ((kx.alloc o).alloc o').facts5.2.2.2.2.2.2.2.1
              have f3 := fun o o' => ((kx.alloc o).alloc o').facts5.2.2.2.2.2.2.2.2.1
              have f4 := fun o o' => ((kx.alloc o).alloc o').facts5.2.2.2.2.2.2.2.2.2
              have HXA := Lib.hid hxa
              have HX := Lib.hid hx
              clear hl1 hat hxa hx
              go_wp2_with fail
              exact ⟨⟨j + 1, by omega, by go_num, app_step hlt kx HX.out HXA.out ky hBq rfl⟩, by simp [intOf]; omega⟩
            · have hjl : j = l.length := by omega
              subst hjl
              rw [List.take_length] at kx hx
              obtain ⟨q0, q1, q2, q3, q4⟩ := kx.cells5
              obtain ⟨r0, r1, r2, r3, r4, f0, f1, f2, f3, f4⟩ := ky.facts5
              have HX := Lib.hid hx
              clear hx
              go_wp2_with fail
              obtain ⟨z0, z1, z2, z3, z4⟩ := (ky.set5 (.int .i64 (appTm f l).kind) (.int .i64 (appTm f l).index) (.int .i64 (appTm f l).type.kind) (.slice B2 (appTm f l).type.args.length d2) (.slice A2 (appTm f l).args.length c2)).cells5
              refine bodyPost_ret (v := .tuple #[.agg #[.int .i64 (appTm f l).kind, .int .i64 (appTm f l).index, .int .i64 (appTm f l).type.kind, .slice B2 (appTm f l).type.args.length d2, .slice A2 (appTm f l).args.length c2], .int .i64 0]) (by simp [results, Tryd.results28, go_sem, z0, z1, z2, z3, z4]) rfl ?_
              have hg := only_set5 wr (w.heap.size + 1) (.int .i64 (appTm f l).kind) (.int .i64 (appTm f l).index) (.int .i64 (appTm f l).type.kind) (.slice B2 (appTm f l).type.args.length d2) (.slice A2 (appTm f l).args.length c2)
              refine ⟨hBq.grown hg hqs (fun k e => by cases e; omega), ?_⟩
              rw [if_pos HR.out]
              have hne : ∀ b, (b < w.heap.size ∨ w.heap.size + 2 ≤ b) → b ≠ w.heap.size + 1 := fun b h => by omega
              exact ⟨_, rfl, IsTm.keep (fun b h => Nat.lt_of_lt_of_le h.2 hg.size) (fun p hp => World.cell?_of_block (hg.block p.block hp.2 (fun e => hne _ hp.1 (by simpa using e)))) _ HX.out⟩
        · have hd : decide ((4096 : Int) < ((f.size + (sizeAllT l + l.length) : Nat) : Int)) = true := by simp; omega
          have hr : appErr f l = 4 := by unfold appErr; rw [if_pos HE.out, if_pos HER.out, if_neg hgt]
          have HR := Lib.hid hr
          clear hr
          obtain ⟨r0, r1, r2, r3, r4, f0, f1, f2, f3, f4⟩ := k1.facts5
          go_wp2_with fail
          obtain ⟨z0, z1, z2, z3, z4⟩ := (k1.set5 (.int .i64 0) (.int .i64 0) (.int .i64 0) (.slice none 0 0) (.slice none 0 0)).cells5
          refine bodyPost_ret (v := .tuple #[.agg #[.int .i64 0, .int .i64 0, .int .i64 0, .slice none 0 0, .slice none 0 0], .int .i64 4]) (by simp [results, Tryd.results28, go_sem, z0, z1, z2, z3, z4]) rfl ?_
          exact apply_err hB HR.out (by decide) _ _ _ _ _
  · have e2 : (f.err != 0) = true := by simp [he]
    have HE := Lib.hid he
    clear he
    obtain ⟨r0, r1, r2, r3, r4, f0, f1, f2, f3, f4⟩ := k1.facts5
    go_wp2_with fail
    obtain ⟨z0, z1, z2, z3, z4⟩ := (k1.set5 (.int .i64 0) (.int .i64 0) (.int .i64 0) (.slice none 0 0) (.slice none 0 0)).cells5
    refine bodyPost_ret (v := .tuple #[.agg #[.int .i64 0, .int .i64 0, .int .i64 0, .slice none 0 0, .slice none 0 0], .int .i64 f.err]) (by simp [results, Tryd.results28, go_sem, z0, z1, z2, z3, z4]) rfl ?_
    exact apply_err hb01 (by unfold appErr; rw [if_neg HE.out]) HE.out _ _ _ _ _
end Go.Proofs.YtcidmhjojkongaaDoor
