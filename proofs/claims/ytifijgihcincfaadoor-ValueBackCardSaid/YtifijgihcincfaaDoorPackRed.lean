/- Default. -/
import Derived.Test.YtifijgihcincfaaDoorTypeTop
import Derived.Test.YtifijgihcincfaaDoorRefSame
import Derived.Test.YtifijgihcincfaaDoorAppKit
import Derived.Test.YtifijgihcincfaaDoorPackSubst
import Derived.Test.YtifijgihcincfaaDoorSameEq
import Derived.Test.YtifijgihcincfaaDoorSmallKit
namespace Go.Proofs.YtifijgihcincfaaDoor
open Go.RowKit

/-- The default of a type. -/
def Ty.dflt : Ty → Tm
  | .mk k [a, b] => if k = 3 then .mk 10 0 .zero [a.dflt, b.dflt] else if k = 4 then .mk 2 0 a [b.dflt] else .mk 13 0 .zero []
  | .mk k _ => if k = 1 then .mk 4 0 .zero [] else if k = 2 then .mk 7 0 .zero [] else .mk 13 0 .zero []

/-- The term t, in blocks of S or new ones. -/
def InTm (S : Nat → Prop) (w : World) (t : Tm) (e : Ending) (w' : World) : Prop :=
  ∃ v, e = .returned v ∧ IsTm (fun b => (S b ∨ w.heap.size ≤ b) ∧ b < w'.heap.size) w' t v ∧ Below w.heap.size w w'

theorem box25_facts (w : World) (x0 x1 : Value) : ∃ W, W = (w.alloc (Obj.cells #[x0, x1] 30)).alloc (Obj.cells #[.int .i64 0, .int .i64 0, .int .i64 0, .slice none 0 0, .slice none 0 0] 34) ∧
    Below w.heap.size w W ∧ W.heap.size = w.heap.size + 2 ∧ Blk W w.heap.size 30 #[x0, x1] ∧ Blk W (w.heap.size + 1) 34 #[.int .i64 0, .int .i64 0, .int .i64 0, .slice none 0 0, .slice none 0 0] := by
  obtain ⟨b1, z1, k1⟩ := new_blk (Below.refl w.heap.size w) (Nat.le_refl _) #[x0, x1] 30
  generalize w.alloc (Obj.cells #[x0, x1] 30) = W1 at b1 z1 k1 ⊢
  obtain ⟨b2, z2, k2⟩ := new_blk b1 b1.size #[.int .i64 0, .int .i64 0, .int .i64 0, .slice none 0 0, .slice none 0 0] 34
  have k1 := k1.alloc (Obj.cells #[.int .i64 0, .int .i64 0, .int .i64 0, .slice none 0 0, .slice none 0 0] 34)
  rw [z1] at k2
  exact ⟨_, rfl, b2, by omega, k1, k2⟩

theorem dflt_leaf (S : Nat → Prop) (k : Int) (w W : World) (hb : Below w.heap.size w W) : InTm S w (.mk k 0 .zero []) (.returned (.agg #[.int .i64 k, .int .i64 0, .int .i64 0, .slice none 0 0, .slice none 0 0])) W :=
  ⟨_, rfl, isTm_iff.2 ⟨rfl, rfl, IsTy.leaf _ _ _, Rep.Sl.nil _ _⟩, hb⟩

/-- The result is stored: a node over a list that was just built. -/
theorem dflt_close {S : Nat → Prop} {w w2 : World} {k : Int} {T : Ty} {l : List Tm} {xs : List Value} {x2 x3 : Value} {n : Nat} (hS : ∀ b, S b → b < w.heap.size) (hb : Below w.heap.size w w2) (hz : w.heap.size + 2 ≤ w2.heap.size)
    (hT : IsTy (fun b => (S b ∨ w.heap.size + 2 ≤ b) ∧ b < w2.heap.size) w2 T (.agg #[x2, x3])) (hc : TmR.Ch (fun b => (S b ∨ w.heap.size + 2 ≤ b) ∧ b < w2.heap.size) w2 l xs) (hn : l.length = n) :
    InTm S w (.mk k 0 T l) (.returned (.agg #[.int .i64 k, .int .i64 0, x2, x3, .slice (some ⟨w2.heap.size, 0, none⟩) n n]))
      ((((((w2.alloc (.cells xs.toArray 34)).setCell ⟨w.heap.size + 1, 0, none⟩ (.int .i64 k)).setCell ⟨w.heap.size + 1, 1, none⟩ (.int .i64 0)).setCell ⟨w.heap.size + 1, 2, none⟩ x2).setCell ⟨w.heap.size + 1, 3, none⟩ x3).setCell ⟨w.heap.size + 1, 4, none⟩ (.slice (some ⟨w2.heap.size, 0, none⟩) n n)) := by
  have hg := only_set5 (w2.alloc (.cells xs.toArray 34)) (w.heap.size + 1) (.int .i64 k) (.int .i64 0) x2 x3 (.slice (some ⟨w2.heap.size, 0, none⟩) n n)
  have hs := hg.size
  rw [World.size_alloc] at hs
  have hg2 : w2.grownBy _ (some (w.heap.size + 1)) := only_trans (World.grownBy_alloc w2 (.cells xs.toArray 34) _) hg
  have hset : ∀ b, (S b ∨ w.heap.size + 2 ≤ b) → b ≠ w.heap.size + 1 := fun b h => by
    rcases h with h | h
    · have := hS b h; omega
    · omega
  have hkeep : ∀ p : Addr, ((S p.block ∨ w.heap.size + 2 ≤ p.block) ∧ p.block < w2.heap.size) → World.cell? _ p = w2.cell? p := fun p hp => World.cell?_of_block (hg2.block p.block hp.2 (fun e => hset _ hp.1 (by simpa using e)))
  have hblk := (Blk.new w2 34 xs.toArray).grown hg (by simp; omega)
  refine ⟨_, rfl, isTm_iff.2 ⟨rfl, rfl, IsTy.keep (fun b h => ⟨h.1.imp id (fun h => by omega), by omega⟩) hkeep _ hT, ?_⟩, hb.grown hg2 hb.size (fun k e => by cases e; omega)⟩
  exact Rep.Sl.of_blk (R := TmR) hblk (hc.keep (S' := fun b => (S b ∨ w.heap.size + 2 ≤ b) ∧ b < w2.heap.size) (fun _ h => h) hkeep) (fun b h => ⟨h.1.imp id (fun h => by omega), by omega⟩) ⟨.inr (by omega), by omega⟩ hn

end Go.Proofs.YtifijgihcincfaaDoor
namespace Go.Proofs.YtifijgihcincfaaDoor
open Go.RowKit

def DefaultR (S : Nat → Prop) (T : Ty) (w : World) (e : Ending) (w' : World) : Prop :=
  Below w.heap.size w w' ∧ if T.err = 0 then ∃ v, e = .returned (.tuple #[v, .int .i64 0]) ∧ IsTm (fun b => (S b ∨ w.heap.size ≤ b) ∧ b < w'.heap.size) w' T.dflt v
    else e = .returned (.tuple #[.agg #[.int .i64 0, .int .i64 0, .int .i64 0, .slice none 0 0, .slice none 0 0], .int .i64 T.err])

def errsT : List Tm → Int
  | [] => 0
  | t :: r => if t.err = 0 then errsT r else t.err
def appErr (f : Tm) (l : List Tm) : Int := if f.err = 0 then if errsT l = 0 then if f.size + (sizeAllT l + l.length) ≤ 4096 then 0 else 4 else errsT l else f.err
theorem errsT_take {l : List Tm} {j : Nat} (hj : j < l.length) (h : errsT (l.take j) = 0) (he : l[j].err = 0) : errsT (l.take (j + 1)) = 0 := by
  induction l generalizing j with
  | nil => simp at hj
  | cons t r ih =>
    cases j with
    | zero => simp at he; simp [errsT, he]
    | succ j =>
      simp only [List.take_succ_cons, errsT] at h ⊢
      split at h
      · rename_i h0
        rw [if_pos h0]
        exact ih (by simpa using hj) h (by simpa using he)
      · rename_i h0; exact absurd h h0
theorem errsT_stop {l : List Tm} {j : Nat} (hj : j < l.length) (h : errsT (l.take j) = 0) (he : l[j].err ≠ 0) : errsT l = l[j].err := by
  induction l generalizing j with
  | nil => simp at hj
  | cons t r ih =>
    cases j with
    | zero => simp at he; simp [errsT, he]
    | succ j =>
      simp only [List.take_succ_cons, errsT] at h ⊢
      split at h
      · rename_i h0
        rw [if_pos h0]
        simpa using ih (by simpa using hj) h (by simpa using he)
      · rename_i h0; exact absurd h h0
theorem sizeAllT_take (l : List Tm) (j : Nat) (hj : j < l.length) : sizeAllT (l.take (j + 1)) = sizeAllT (l.take j) + l[j].size := by
  rw [List.take_succ_eq_append_getElem hj, sizeAllT_append]
  simp [sizeAllT]
theorem sizeAllT_take_le (l : List Tm) (j : Nat) : sizeAllT (l.take j) ≤ sizeAllT l := by
  have := sizeAllT_append (l.take j) (l.drop j)
  rw [List.take_append_drop] at this
  omega

/-- As ApplyR, and where the result lies. -/
def ApplyIn (S : Nat → Prop) (f : Tm) (l : List Tm) (w : World) (e : Ending) (w' : World) : Prop :=
  Below w.heap.size w w' ∧ if appErr f l = 0 then ∃ v, e = .returned (.tuple #[v, .int .i64 0]) ∧ IsTm (fun b => (S b ∨ w.heap.size ≤ b) ∧ b < w'.heap.size) w' (appTm f l) v
    else e = .returned (.tuple #[.agg #[.int .i64 0, .int .i64 0, .int .i64 0, .slice none 0 0, .slice none 0 0], .int .i64 (appErr f l)])
def ApplyR (f : Tm) (l : List Tm) (w : World) (e : Ending) (w' : World) : Prop :=
  Below w.heap.size w w' ∧ if appErr f l = 0 then ∃ v, e = .returned (.tuple #[v, .int .i64 0]) ∧ IsTm (· < w'.heap.size) w' (appTm f l) v
    else e = .returned (.tuple #[.agg #[.int .i64 0, .int .i64 0, .int .i64 0, .slice none 0 0, .slice none 0 0], .int .i64 (appErr f l)])

theorem apply_err {S : Nat → Prop} {f : Tm} {l : List Tm} {w w1 : World} {er : Int} (hb : Below w.heap.size w w1) (he : appErr f l = er) (h0 : er ≠ 0) (a b c d x : Value) :
    ApplyIn S f l w (.returned (.tuple #[.agg #[.int .i64 0, .int .i64 0, .int .i64 0, .slice none 0 0, .slice none 0 0], .int .i64 er]))
      (((((w1.setCell ⟨w.heap.size + 1, 0, none⟩ a).setCell ⟨w.heap.size + 1, 1, none⟩ b).setCell ⟨w.heap.size + 1, 2, none⟩ c).setCell ⟨w.heap.size + 1, 3, none⟩ d).setCell ⟨w.heap.size + 1, 4, none⟩ x) := by
  refine ⟨hb.grown (only_set5 w1 (w.heap.size + 1) a b c d x) hb.size (fun k e => by cases e; omega), ?_⟩
  rw [he, if_neg h0]

set_option maxRecDepth 100000 in
set_option maxHeartbeats 4000000 in
theorem apply_in (S : Nat → Prop) (f : Tm) (l : List Tm) (v s : Value) (w : World) (htab : Tab w) (hfz : f.bulk ≤ 400000) (hlz : bulkAll l ≤ 900000) (hle : ∀ x ∈ l, x.bulk ≤ 400000) (hS : ∀ b, S b → b < w.heap.size) (hTS : IsTm S w f v) (hlS : TmR.Sl S w l s) :
    Calls Tryd.prog 118 #[v, s] w (ApplyIn S f l w) := by
  have hT : IsTm (· < w.heap.size) w f v := IsTm.keep (fun b h => hS b h) (fun _ _ => rfl) _ hTS
  have hl : TmR.Sl (· < w.heap.size) w l s := hlS.keep (fun b h => hS b h) (fun _ _ => rfl)
  have HTS := Lib.hid hTS
  have HLE := Lib.hid hle
  clear hle
  have HLS := Lib.hid hlS
  have HSS := Lib.hid hS
  clear hTS hlS hS
  obtain ⟨B, d, A, c, rfl, _, _⟩ := hT.parts
  obtain ⟨A0, c0, rfl⟩ := hl.form
  obtain ⟨W, hW, hb, hz, k0, k1⟩ := box55_facts w (.int .i64 f.kind) (.int .i64 f.index) (.int .i64 f.type.kind) (.slice B f.type.args.length d) (.slice A f.args.length c)
  have hTW := hT.boxed hb
  have HT := Lib.hid hT
  have HL := Lib.hid hl
  have HTab := Lib.hid (htab.after hb)
  have hll := bulkAll_len l
  have hfs := size_bulk f
  have hls := sizeAll_bulk l
  clear htab hl
  go_enter Tryd.func118, Tryd.ntmps118
  go_wp2_with fail
  rw [← hW]
  clear hW
  refine (sizeT_any f _ W hfz HTab.out hTW).mono ?_
  rintro e w1 ⟨rfl, hb1⟩
  have hs1 := hb1.size
  have hb01 : Below w.heap.size w w1 := hb.trans (hb1.mono hb.size)
  have k0 := k0.below hb1 k0.lt
  have k1 := k1.below hb1 k1.lt
  have hz1 : w.heap.size + 2 ≤ w1.heap.size := by omega
  clear hT hTW hz
  by_cases he : f.err = 0
  · have hcnt := errT_count he
    have HE := Lib.hid he
    rw [he, hcnt]
    clear he hcnt
    go_wp2_with fail
    go_loopw [6, 25] (fun tot ix wr => ∃ j : Nat, j ≤ l.length ∧ ix = .int .i64 j ∧ tot = .int .i64 ((f.size + (sizeAllT (l.take j) + j) : Nat) : Int) ∧ errsT (l.take j) = 0 ∧ Below w1.heap.size w1 wr) (fun _ ix _ => l.length - (intOf ix).toNat)
    case atStart => exact ⟨0, by omega, rfl, by simp [sizeAllT], rfl, Below.refl _ _⟩
    case round =>
      obtain ⟨j, hj, rfl, rfl, herr, hbw⟩ := hrel
      have HER := Lib.hid herr
      have hbs := hbw.size
      have hB : Below w.heap.size w wr := hb01.trans (hbw.mono hb01.size)
      have htl := sizeAllT_take_le l j
      clear herr
      by_cases hlt : j < l.length
      · have hl1 : TmR.Sl (· < w.heap.size) wr l (.slice A0 l.length c0) := HL.out.keep (fun _ h => h) (fun p hp => hB.cell hp)
        obtain ⟨a, rfl, ha, hat⟩ := hl1.get j hlt
        obtain ⟨B1, d1, A1, c1, q0, q1, q2, q3, q4, hx⟩ := at_tm hat
        simp only [show TmR.n = 5 from rfl] at q0 q1 q2 q3 q4
        have hbj := bulkAll_get l j hlt
        have hbe := HLE.out _ (List.getElem_mem hlt)
        have htk := sizeAllT_take l j hlt
        have htl2 := sizeAllT_take_le l (j + 1)
        have hbx := below_box wr (Obj.cells #[.int .i64 l[j].kind, .int .i64 l[j].index, .int .i64 l[j].type.kind, .slice B1 l[j].type.args.length d1, .slice A1 l[j].args.length c1] 34)
        have hx1 := (IsTm.keep (S' := (· < wr.heap.size)) (fun b h => by have h : b < w.heap.size := h; omega) (fun _ _ => rfl) _ hx).boxed hbx
        have HX := Lib.hid (And.intro hx1 (And.intro hbx htk))
        clear hl1 hat hx hx1 htk hbx
        by_cases hej : l[j].err = 0
        · have hcj := errT_count hej
          have HJ := Lib.hid (And.intro hej hcj)
          clear hej hcj
          go_wp2_with fail
          refine (sizeT_any l[j] _ _ (by omega) ((HTab.out.after hb1).below (hbw.trans (HX.out.2.1.mono hbs)) (HTab.out.after hb1).lt) HX.out.1).mono ?_
          rintro e w2 ⟨rfl, hb2⟩
          rw [HJ.out.1, HJ.out.2]
          have hsum : f.size + (sizeAllT (l.take j) + j) + (l[j].size + 1) ≤ 4000000 := by have := HX.out.2.2; omega
          go_wp2_with fail
          refine ⟨⟨j + 1, by omega, by go_num, ?_, errsT_take hlt HER.out HJ.out.1, hbw.trans ((HX.out.2.1.trans (hb2.mono HX.out.2.1.size)).mono hbs)⟩, by simp [intOf]; omega⟩
          rw [HX.out.2.2]; go_num
        · have e2 : (l[j].err != 0) = true := by simp [hej]
          have HS := Lib.hid (And.intro (errsT_stop hlt HER.out hej) hej)
          clear hej
          go_wp2_with fail
          refine (sizeT_any l[j] _ _ (by omega) ((HTab.out.after hb1).below (hbw.trans (HX.out.2.1.mono hbs)) (HTab.out.after hb1).lt) HX.out.1).mono ?_
          rintro e w2 ⟨rfl, hb2⟩
          have hb12 : Below w1.heap.size w1 w2 := hbw.trans ((HX.out.2.1.trans (hb2.mono HX.out.2.1.size)).mono hbs)
          have k1 := k1.below hb12 (by omega)
          obtain ⟨r0, r1, r2, r3, r4, f0, f1, f2, f3, f4⟩ := k1.facts5
          go_wp2_with fail
          obtain ⟨z0, z1, z2, z3, z4⟩ := (k1.set5 (.int .i64 0) (.int .i64 0) (.int .i64 0) (.slice none 0 0) (.slice none 0 0)).cells5
          refine bodyPost_ret (v := .tuple #[.agg #[.int .i64 0, .int .i64 0, .int .i64 0, .slice none 0 0, .slice none 0 0], .int .i64 l[j].err]) (by simp [results, Tryd.results118, go_sem, z0, z1, z2, z3, z4]) rfl ?_
          exact apply_err (hb01.trans (hb12.mono hb01.size)) (by unfold appErr; rw [if_pos HE.out, HS.out.1, if_neg HS.out.2]) HS.out.2 _ _ _ _ _
      · have hjl : j = l.length := by omega
        subst hjl
        rw [List.take_length] at HER ⊢
        have k0 := k0.below hbw (by omega)
        have k1 := k1.below hbw (by omega)
        by_cases hgt : f.size + (sizeAllT l + l.length) ≤ 4096
        · have hd : decide ((4096 : Int) < ((f.size + (sizeAllT l + l.length) : Nat) : Int)) = false := by simp; omega
          have hr : appErr f l = 0 := by unfold appErr; rw [if_pos HE.out, if_pos HER.out, if_pos hgt]
          have HR := Lib.hid hr
          clear hr
          go_wp2_with fail
          go_loopw [48] (fun ix wq => ∃ j : Nat, j ≤ l.length ∧ ix = .int .i64 j ∧ AppRel S w f l j wq) (fun ix _ => l.length - (intOf ix).toNat)
          case atStart => exact ⟨0, by omega, rfl, B, d, A, c, k0, IsTm.keep (fun b h => ⟨.inl h, by have := HSS.out b h; omega⟩) (fun p hp => hB.cell (HSS.out _ hp)) _ HTS.out, k1, hB⟩
          case round =>
            obtain ⟨j, hj, rfl, B2, d2, A2, c2, kx, hx, ky, hBq⟩ := hrel
            have hqs := hBq.size
            have hql := ky.lt
            by_cases hlt : j < l.length
            · have hl1 : TmR.Sl S wr (l) (.slice A0 l.length c0) := HLS.out.keep (fun _ h => h) (fun p hp => hBq.cell (HSS.out _ hp))
              have HSS := HSS
              obtain ⟨a, rfl, ha, hat⟩ := hl1.get j hlt
              obtain ⟨B1, d1, A1, c1, q0, q1, q2, q3, q4, hxa⟩ := at_tm hat
              simp only [show TmR.n = 5 from rfl] at q0 q1 q2 q3 q4
              have u0 := fun o => (kx.alloc o).facts5.1
              have u1 := fun o => (kx.alloc o).facts5.2.1
              have u2 := fun o => (kx.alloc o).facts5.2.2.1
              have u3 := fun o => (kx.alloc o).facts5.2.2.2.1
              have u4 := fun o => (kx.alloc o).facts5.2.2.2.2.1
              have v0 := fun o o' => ((kx.alloc o).alloc o').facts5.1
              have v1 := fun o o' => ((kx.alloc o).alloc o').facts5.2.1
              have v2 := fun o o' => ((kx.alloc o).alloc o').facts5.2.2.1
              have v3 := fun o o' => ((kx.alloc o).alloc o').facts5.2.2.2.1
              have v4 := fun o o' => ((kx.alloc o).alloc o').facts5.2.2.2.2.1
              have f0 := fun o o' => ((kx.alloc o).alloc o').facts5.2.2.2.2.2.1
              have f1 := fun o o' => ((kx.alloc o).alloc o').facts5.2.2.2.2.2.2.1
              have f2 := fun o o' => ((kx.alloc o).alloc o').facts5.2.2.2.2.2.2.2.1
              have f3 := fun o o' => ((kx.alloc o).alloc o').facts5.2.2.2.2.2.2.2.2.1
              have f4 := fun o o' => ((kx.alloc o).alloc o').facts5.2.2.2.2.2.2.2.2.2
              have HXA := Lib.hid hxa
              have HX := Lib.hid hx
              clear hl1 hat hxa hx
              go_wp2_with fail
              exact ⟨⟨j + 1, by omega, by go_num, app_step HSS.out hlt kx HX.out HXA.out ky hBq rfl⟩, by simp [intOf]; omega⟩
            · have hjl : j = l.length := by omega
              subst hjl
              rw [List.take_length] at kx hx
              obtain ⟨q0, q1, q2, q3, q4⟩ := kx.cells5
              obtain ⟨r0, r1, r2, r3, r4, f0, f1, f2, f3, f4⟩ := ky.facts5
              have HX := Lib.hid hx
              clear hx
              go_wp2_with fail
              obtain ⟨z0, z1, z2, z3, z4⟩ := (ky.set5 (.int .i64 (appTm f l).kind) (.int .i64 (appTm f l).index) (.int .i64 (appTm f l).type.kind) (.slice B2 (appTm f l).type.args.length d2) (.slice A2 (appTm f l).args.length c2)).cells5
              refine bodyPost_ret (v := .tuple #[.agg #[.int .i64 (appTm f l).kind, .int .i64 (appTm f l).index, .int .i64 (appTm f l).type.kind, .slice B2 (appTm f l).type.args.length d2, .slice A2 (appTm f l).args.length c2], .int .i64 0]) (by simp [results, Tryd.results118, go_sem, z0, z1, z2, z3, z4]) rfl ?_
              have hg := only_set5 wr (w.heap.size + 1) (.int .i64 (appTm f l).kind) (.int .i64 (appTm f l).index) (.int .i64 (appTm f l).type.kind) (.slice B2 (appTm f l).type.args.length d2) (.slice A2 (appTm f l).args.length c2)
              refine ⟨hBq.grown hg hqs (fun k e => by cases e; omega), ?_⟩
              rw [if_pos HR.out]
              have hne : ∀ b, (S b ∨ w.heap.size + 2 ≤ b) → b ≠ w.heap.size + 1 := fun b h => h.elim (fun h => by have := HSS.out b h; omega) (fun h => by omega)
              exact ⟨_, rfl, IsTm.keep (fun b h => ⟨h.1.imp id (fun h => by omega), Nat.lt_of_lt_of_le h.2 hg.size⟩) (fun p hp => World.cell?_of_block (hg.block p.block hp.2 (fun e => hne _ hp.1 (by simpa using e)))) _ HX.out⟩
        · have hd : decide ((4096 : Int) < ((f.size + (sizeAllT l + l.length) : Nat) : Int)) = true := by simp; omega
          have hr : appErr f l = 4 := by unfold appErr; rw [if_pos HE.out, if_pos HER.out, if_neg hgt]
          have HR := Lib.hid hr
          clear hr
          obtain ⟨r0, r1, r2, r3, r4, f0, f1, f2, f3, f4⟩ := k1.facts5
          go_wp2_with fail
          obtain ⟨z0, z1, z2, z3, z4⟩ := (k1.set5 (.int .i64 0) (.int .i64 0) (.int .i64 0) (.slice none 0 0) (.slice none 0 0)).cells5
          refine bodyPost_ret (v := .tuple #[.agg #[.int .i64 0, .int .i64 0, .int .i64 0, .slice none 0 0, .slice none 0 0], .int .i64 4]) (by simp [results, Tryd.results118, go_sem, z0, z1, z2, z3, z4]) rfl ?_
          exact apply_err hB HR.out (by decide) _ _ _ _ _
  · have e2 : (f.err != 0) = true := by simp [he]
    have HE := Lib.hid he
    clear he
    obtain ⟨r0, r1, r2, r3, r4, f0, f1, f2, f3, f4⟩ := k1.facts5
    go_wp2_with fail
    obtain ⟨z0, z1, z2, z3, z4⟩ := (k1.set5 (.int .i64 0) (.int .i64 0) (.int .i64 0) (.slice none 0 0) (.slice none 0 0)).cells5
    refine bodyPost_ret (v := .tuple #[.agg #[.int .i64 0, .int .i64 0, .int .i64 0, .slice none 0 0, .slice none 0 0], .int .i64 f.err]) (by simp [results, Tryd.results118, go_sem, z0, z1, z2, z3, z4]) rfl ?_
    exact apply_err hb01 (by unfold appErr; rw [if_neg HE.out]) HE.out _ _ _ _ _
theorem apply_any (f : Tm) (l : List Tm) (v s : Value) (w : World) (htab : Tab w) (hfz : f.bulk ≤ 400000) (hlz : bulkAll l ≤ 400000) (hT : IsTm (· < w.heap.size) w f v) (hl : TmR.Sl (· < w.heap.size) w l s) :
    Calls Tryd.prog 118 #[v, s] w (ApplyR f l w) := by
  refine (apply_in (· < w.heap.size) f l v s w htab hfz (by omega) (fun x hx => by obtain ⟨j, hj, rfl⟩ := List.mem_iff_getElem.1 hx; have := bulkAll_get l j hj; omega) (fun _ h => h) hT hl).mono ?_
  rintro e w' ⟨h1, h2⟩
  refine ⟨h1, ?_⟩
  by_cases he : appErr f l = 0
  · rw [if_pos he] at h2 ⊢
    obtain ⟨v, h3, h4⟩ := h2
    exact ⟨v, h3, IsTm.keep (fun b h => h.2) (fun _ _ => rfl) _ h4⟩
  · rw [if_neg he] at h2 ⊢
    exact h2
end Go.Proofs.YtifijgihcincfaaDoor
namespace Go.Proofs.YtifijgihcincfaaDoor
open Go.RowKit

/-- What stands where there is no part. -/
def Tm.void : Tm := .mk 0 0 .zero []
def Tm.arg (t : Tm) (i : Nat) : Tm := t.args.getD i .void

/-- A node of the kind k with the parts l is a redex. -/
def redexOf (k : Int) (l : List Tm) : Bool :=
  if k = 3 then (l.getD 0 .void).kind == 2
  else if k = 6 then (l.getD 2 .void).kind == 4 || (l.getD 2 .void).kind == 5
  else if k = 9 then (l.getD 2 .void).kind == 7 || (l.getD 2 .void).kind == 8
  else if k = 11 ∨ k = 12 then (l.getD 0 .void).kind == 10
  else false
def Tm.redex (t : Tm) : Bool := redexOf t.kind t.args

/-- The list over which a recursion goes. -/
def Tm.over (t : Tm) : List Tm := (t.arg 2).args
/-- The recursion over what is left. -/
def Tm.rest (t : Tm) : Tm := .mk t.kind t.index t.type (t.args.set 2 (t.over.getD (t.over.length - 1) .void))
/-- What a redex becomes. -/
def Tm.becomes (t : Tm) : Tm :=
  if t.kind = 3 then ((t.arg 0).arg 0).put 0 (t.arg 1)
  else if t.kind = 11 then (t.arg 0).arg 0
  else if t.kind = 12 then (t.arg 0).arg 1
  else if t.over.length = 0 then t.arg 0
  else appTm (t.arg 1) (t.over ++ [t.rest])

mutual
/-- The term after a step, if there is one. -/
def Tm.next : Tm → Option Tm
  | .mk k i T l => if redexOf k l = true then some (Tm.mk k i T l).becomes else (nextAll l).map (.mk k i T)
def nextAll : List Tm → Option (List Tm)
  | [] => none
  | t :: r => match t.next with
    | some u => some (u :: r)
    | none => (nextAll r).map (t :: ·)
end
/-- The term after n steps. -/
def Tm.iter : Nat → Tm → Option Tm
  | 0, t => some t
  | n + 1, t => t.next.bind (Tm.iter n)

theorem next_mk (k i : Int) (T : Ty) (l : List Tm) : (Tm.mk k i T l).next = if redexOf k l = true then some (Tm.mk k i T l).becomes else (nextAll l).map (.mk k i T) := by rw [Tm.next]
theorem next_redex {t : Tm} (h : t.redex = true) : t.next = some t.becomes := by
  cases t with
  | mk k i T l => exact (next_mk k i T l).trans (if_pos h)
theorem nextAll_at : ∀ {l : List Tm} {j : Nat} {u : Tm} (hj : j < l.length), (∀ i (hi : i < l.length), i < j → l[i].next = none) → l[j].next = some u → nextAll l = some (l.set j u)
  | t :: r, 0, u, _, _, h => by
    simp only [List.getElem_cons_zero] at h
    rw [nextAll, h]
    rfl
  | t :: r, j + 1, u, hj, hn, h => by
    have h0 := hn 0 (by simp) (by omega)
    simp only [List.getElem_cons_zero] at h0
    rw [nextAll, h0]
    simp only
    rw [nextAll_at (l := r) (j := j) (u := u) (by simpa using hj) (fun i hi hij => by have := hn (i + 1) (by simpa using hi) (by omega); simpa using this) (by simpa using h)]
    rfl
theorem nextAll_none : ∀ {l : List Tm}, (∀ i (hi : i < l.length), l[i].next = none) → nextAll l = none
  | [], _ => by rw [nextAll]
  | t :: r, h => by
    have h0 := h 0 (by simp)
    simp only [List.getElem_cons_zero] at h0
    rw [nextAll, h0]
    simp only
    rw [nextAll_none (l := r) fun i hi => by have := h (i + 1) (by simpa using hi); simpa using this]
    rfl
theorem nextAll_some : ∀ {l m : List Tm}, nextAll l = some m → ∃ (j : Nat) (hj : j < l.length) (u : Tm), l[j].next = some u ∧ m = l.set j u ∧ ∀ i (hi : i < l.length), i < j → l[i].next = none
  | [], m, h => by rw [nextAll] at h; cases h
  | t :: r, m, h => by
    rw [nextAll] at h
    cases ht : t.next with
    | some u =>
      rw [ht] at h
      simp only [Option.some.injEq] at h
      exact ⟨0, by simp, u, by simpa using ht, by rw [← h]; rfl, fun i _ h => by omega⟩
    | none =>
      rw [ht] at h
      simp only at h
      cases hr : nextAll r with
      | none => rw [hr] at h; cases h
      | some s =>
        rw [hr] at h
        simp only [Option.map_some, Option.some.injEq] at h
        obtain ⟨j, hj, u, h1, h2, h3⟩ := nextAll_some hr
        refine ⟨j + 1, by simpa using hj, u, by simpa using h1, by rw [← h, h2]; rfl, fun i hi hij => ?_⟩
        cases i with
        | zero => simpa using ht
        | succ i => have := h3 i (by simpa using hi) (by omega); simpa using this
theorem nextAll_normal : ∀ {l : List Tm}, nextAll l = none → ∀ i (hi : i < l.length), l[i].next = none
  | [], _, i, hi => by simp at hi
  | t :: r, h, i, hi => by
    rw [nextAll] at h
    cases ht : t.next with
    | some u => rw [ht] at h; cases h
    | none =>
      rw [ht] at h
      simp only [Option.map_eq_none_iff] at h
      cases i with
      | zero => simpa using ht
      | succ i => have := nextAll_normal h i (by simpa using hi); simpa using this
theorem next_none {k i : Int} {T : Ty} {l : List Tm} (h : redexOf k l = false) (hn : ∀ i (hi : i < l.length), l[i].next = none) : (Tm.mk k i T l).next = none := by
  rw [next_mk, if_neg (by simp [h]), nextAll_none hn]
  rfl
theorem next_at {k i : Int} {T : Ty} {l : List Tm} {j : Nat} {u : Tm} (h : redexOf k l = false) (hj : j < l.length) (hn : ∀ i (hi : i < l.length), i < j → l[i].next = none) (hu : l[j].next = some u) :
    (Tm.mk k i T l).next = some (.mk k i T (l.set j u)) := by
  rw [next_mk, if_neg (by simp [h]), nextAll_at hj hn hu]
  rfl
theorem iter_snoc : ∀ (n : Nat) (t : Tm), t.iter (n + 1) = (t.iter n).bind Tm.next
  | 0, t => by
    simp only [Tm.iter, Option.bind_some]
    cases t.next <;> simp
  | n + 1, t => by
    rw [Tm.iter]
    cases h : t.next with
    | none => simp [Tm.iter, h]
    | some u =>
      rw [Option.bind_some, iter_snoc n u]
      simp [Tm.iter, h]

theorem getD_set_kind (l : List Tm) (j p : Nat) (a : Tm) : ((l.set j a).getD p .void).kind = ((l.set j (.mk a.kind 0 .zero [])).getD p .void).kind := by
  rw [List.getD_eq_getElem?_getD, List.getD_eq_getElem?_getD]
  by_cases h : p = j
  · subst h
    by_cases hl : p < l.length
    · rw [List.getElem?_set_self hl, List.getElem?_set_self hl]; rfl
    · rw [List.getElem?_eq_none (by simpa using hl), List.getElem?_eq_none (by simpa using hl)]
  · rw [List.getElem?_set_ne (Ne.symm h), List.getElem?_set_ne (Ne.symm h)]
/-- Whether a node is a redex depends on the kinds of its parts alone. -/
theorem redexOf_kind (k : Int) (l : List Tm) (j : Nat) (a : Tm) : redexOf k (l.set j a) = redexOf k (l.set j (.mk a.kind 0 .zero [])) := by
  unfold redexOf
  rw [getD_set_kind l j 0 a, getD_set_kind l j 2 a]

/-- n steps from t to u in a place below which B nodes more are; K says of the kinds of what stands there whether the node above is a redex. -/
def Steps (B : Nat) (K : Int → Bool) : Nat → Tm → Tm → Prop
  | 0, t, u => t = u
  | n + 1, t, u => ∃ v, Steps B K n t v ∧ K v.kind = false ∧ v.next = some u ∧ B + u.size ≤ 4096

theorem Steps.trans {B : Nat} {K : Int → Bool} {n : Nat} {t u : Tm} (h : Steps B K n t u) : ∀ {m : Nat} {v : Tm}, Steps B K m u v → Steps B K (n + m) t v
  | 0, v, k => by
    have k' : u = v := k
    subst k'
    exact h
  | m + 1, v, k => by
    obtain ⟨x, h1, h2, h3, h4⟩ := k
    exact ⟨x, h.trans h1, h2, h3, h4⟩
theorem Steps.one {B : Nat} {K : Int → Bool} {t u : Tm} (hk : K t.kind = false) (h : t.next = some u) (hs : B + u.size ≤ 4096) : Steps B K 1 t u := ⟨t, rfl, hk, h, hs⟩
theorem Steps.iter {B : Nat} {K : Int → Bool} : ∀ {n : Nat} {t u : Tm}, Steps B K n t u → t.iter n = some u
  | 0, t, u, h => by
    have h' : t = u := h
    rw [h', Tm.iter]
  | n + 1, t, u, h => by
    obtain ⟨v, h1, _, h3, _⟩ := h
    rw [iter_snoc, h1.iter, Option.bind_some, h3]

theorem sizeAllT_set : ∀ (l : List Tm) (j : Nat) (u : Tm) (hj : j < l.length), sizeAllT (l.set j u) + l[j].size = sizeAllT l + u.size
  | t :: r, 0, u, _ => by simp only [List.set_cons_zero, sizeAllT, List.getElem_cons_zero]; omega
  | t :: r, j + 1, u, hj => by
    have := sizeAllT_set r j u (by simpa using hj)
    simp only [List.set_cons_succ, sizeAllT, List.getElem_cons_succ]
    omega
theorem sizeAllT_get : ∀ (l : List Tm) (j : Nat) (hj : j < l.length), l[j].size ≤ sizeAllT l
  | t :: r, 0, _ => by simp only [sizeAllT, List.getElem_cons_zero]; omega
  | t :: r, j + 1, hj => by
    have := sizeAllT_get r j (by simpa using hj)
    simp only [sizeAllT, List.getElem_cons_succ]
    omega

/-- Steps in a part of a node are steps of the node. -/
theorem Steps.arg {B : Nat} {K : Int → Bool} {k i : Int} {T : Ty} {l : List Tm} {j : Nat} (hk : K k = false) (hj : j < l.length) (hn : ∀ i (hi : i < l.length), i < j → l[i].next = none) :
    ∀ {n : Nat} {u : Tm}, Steps (B + (1 + sizeAllT l) - l[j].size) (fun x => redexOf k (l.set j (.mk x 0 .zero []))) n l[j] u → Steps B K n (.mk k i T l) (.mk k i T (l.set j u))
  | 0, u, h => by
    have h' : l[j] = u := h
    rw [← h', List.set_getElem_self]
    rfl
  | n + 1, u, h => by
    obtain ⟨v, h1, h2, h3, h4⟩ := h
    have h2' : redexOf k (l.set j v) = false := by rw [redexOf_kind]; exact h2
    refine ⟨_, Steps.arg hk hj hn h1, hk, ?_, ?_⟩
    · have := next_at (i := i) (T := T) (u := u) h2' (j := j) (by simpa using hj) (fun i hi hij => by
        rw [List.getElem_set_ne (by omega)]
        exact hn i (by simpa using hi) hij) (by rw [List.getElem_set_self]; exact h3)
      rw [this, List.set_set]
    · have h5 := sizeAllT_set l j u hj
      have h6 := sizeAllT_get l j hj
      simp only [Tm.size]
      omega

/-- How a walk in a place ends: after n of at most lim steps, with the error e. -/
def Ends (B : Nat) (K : Int → Bool) (lim n : Nat) (t u : Tm) (e : Int) : Prop :=
  Steps B K n t u ∧ n ≤ lim ∧ ((e = 0 ∧ (u.next = none ∨ K u.kind = true)) ∨ (K u.kind = false ∧ ((e = 5 ∧ n = lim ∧ u.next ≠ none) ∨ (e = 4 ∧ n < lim ∧ ∃ v, u.next = some v ∧ 4096 < B + v.size))))

theorem iter_add : ∀ (n m : Nat) (t : Tm), t.iter (n + m) = (t.iter n).bind (Tm.iter m)
  | 0, m, t => by simp [Tm.iter]
  | n + 1, m, t => by
    rw [show n + 1 + m = (n + m) + 1 from by omega, Tm.iter, Tm.iter]
    cases h : t.next with
    | none => simp
    | some u => simp [iter_add n m u]
theorem Steps.get {B : Nat} {K : Int → Bool} : ∀ {n : Nat} {t u : Tm}, Steps B K n t u → ∀ m, m < n → ∃ v w, t.iter m = some v ∧ v.next = some w ∧ t.iter (m + 1) = some w ∧ B + w.size ≤ 4096
  | 0, _, _, _, m, hm => by omega
  | n + 1, t, u, h, m, hm => by
    obtain ⟨v, h1, _, h3, h4⟩ := h
    by_cases e : m = n
    · subst e
      exact ⟨v, u, h1.iter, h3, by rw [iter_snoc, h1.iter, Option.bind_some, h3], h4⟩
    · exact h1.get m (by omega)

/-- A walk from the root ends in one way. -/
theorem Ends.unique {lim n m : Nat} {t u v : Tm} {e : Int} (h : Ends 0 (fun _ => false) lim n t u e) (hm : Steps 0 (fun _ => false) m t v) (hv : v.next = none) :
    (e = 0 ∧ n = m ∧ u = v) ∨ (e = 5 ∧ n = lim ∧ lim < m) := by
  obtain ⟨hs, hn, h⟩ := h
  have hu := hs.iter
  have hvi := hm.iter
  -- whoever has a next step stands before the end
  have lt : ∀ w, u.next = some w → n < m := fun w hw => by
    refine Nat.lt_of_not_le fun hle => ?_
    by_cases he : n = m
    · subst he
      rw [hu] at hvi
      cases hvi
      rw [hw] at hv
      cases hv
    · obtain ⟨x, y, h1, h2, _⟩ := hs.get m (by omega)
      rw [hvi] at h1
      cases h1
      rw [hv] at h2
      cases h2
  have eq : u.next = none → n = m ∧ u = v := fun hw => by
    have hle : m ≤ n := by
      refine Nat.le_of_not_lt fun hl => ?_
      obtain ⟨x, y, h1, h2, _⟩ := hm.get n hl
      rw [hu] at h1
      cases h1
      rw [hw] at h2
      cases h2
    have hge : n ≤ m := by
      refine Nat.le_of_not_lt fun hl => ?_
      obtain ⟨x, y, h1, h2, _⟩ := hs.get m hl
      rw [hvi] at h1
      cases h1
      rw [hv] at h2
      cases h2
    have e : n = m := by omega
    subst e
    rw [hu] at hvi
    cases hvi
    exact ⟨rfl, rfl⟩
  rcases h with ⟨rfl, h | h⟩ | ⟨_, ⟨rfl, h1, h2⟩ | ⟨rfl, h1, w, h2, h3⟩⟩
  · exact .inl ⟨rfl, eq h⟩
  · cases h
  · cases hw : u.next with
    | none => exact (h2 hw).elim
    | some w =>
      refine .inr ⟨rfl, h1, ?_⟩
      have := lt w hw
      omega
  · exfalso
    have hl := lt w h2
    obtain ⟨x, y, g1, g2, _, g4⟩ := hm.get n hl
    rw [hu] at g1
    cases g1
    rw [h2] at g2
    cases g2
    omega
end Go.Proofs.YtifijgihcincfaaDoor
namespace Go.Proofs.YtifijgihcincfaaDoor
open Go.RowKit

/-! The forms of redexes. -/
theorem len0 {α : Type} {l : List α} (h : l.length = 0) : l = [] := List.eq_nil_of_length_eq_zero h
theorem len1 {α : Type} : ∀ {l : List α}, l.length = 1 → ∃ a, l = [a]
  | [a], _ => ⟨a, rfl⟩
theorem len2 {α : Type} : ∀ {l : List α}, l.length = 2 → ∃ a b, l = [a, b]
  | [a, b], _ => ⟨a, b, rfl⟩
theorem len3 {α : Type} : ∀ {l : List α}, l.length = 3 → ∃ a b c, l = [a, b, c]
  | [a, b, c], _ => ⟨a, b, c, rfl⟩
theorem ok_len {k i : Int} {T : Ty} {l : List Tm} (h : (Tm.mk k i T l).ok = true) : l.length = arities.getD k.toNat 0 := by
  rw [Tm.ok, Bool.and_eq_true] at h
  exact (formed_kind h.1).2.2.1
theorem ok_arg {k i : Int} {T : Ty} {l : List Tm} (h : (Tm.mk k i T l).ok = true) {a : Tm} (ha : a ∈ l) : a.ok = true := by
  rw [Tm.ok, Bool.and_eq_true] at h
  obtain ⟨j, hj, rfl⟩ := List.mem_iff_getElem.1 ha
  exact okAllT_get h.2 j hj

theorem tm_eta (t : Tm) : t = .mk t.kind t.index t.type t.args := by cases t; rfl
theorem ok_form0 {t : Tm} {k : Int} (h : t.ok = true) (hk : t.kind = k) (hn : arities.getD k.toNat 0 = 0) : t = .mk k t.index t.type [] := by
  have e := tm_eta t
  rw [e] at h
  have hl := ok_len h
  rw [hk, hn] at hl
  rw [hk, len0 hl] at e
  exact e
theorem ok_form1 {t : Tm} {k : Int} (h : t.ok = true) (hk : t.kind = k) (hn : arities.getD k.toNat 0 = 1) : ∃ a, t = .mk k t.index t.type [a] := by
  have e := tm_eta t
  rw [e] at h
  have hl := ok_len h
  rw [hk, hn] at hl
  obtain ⟨a, ha⟩ := len1 hl
  rw [hk, ha] at e
  exact ⟨a, e⟩
theorem ok_form2 {t : Tm} {k : Int} (h : t.ok = true) (hk : t.kind = k) (hn : arities.getD k.toNat 0 = 2) : ∃ a b, t = .mk k t.index t.type [a, b] := by
  have e := tm_eta t
  rw [e] at h
  have hl := ok_len h
  rw [hk, hn] at hl
  obtain ⟨a, b, ha⟩ := len2 hl
  rw [hk, ha] at e
  exact ⟨a, b, e⟩
theorem ok_form3 {t : Tm} {k : Int} (h : t.ok = true) (hk : t.kind = k) (hn : arities.getD k.toNat 0 = 3) : ∃ a b c, t = .mk k t.index t.type [a, b, c] := by
  have e := tm_eta t
  rw [e] at h
  have hl := ok_len h
  rw [hk, hn] at hl
  obtain ⟨a, b, c, ha⟩ := len3 hl
  rw [hk, ha] at e
  exact ⟨a, b, c, e⟩

/-- The seven redexes, and what they become. -/
inductive Red : Tm → Tm → Prop
  | app (i : Int) (T : Ty) (j : Int) (U : Ty) (b a : Tm) : Red (.mk 3 i T [.mk 2 j U [b], a]) (b.put 0 a)
  | zero (i : Int) (T : Ty) (b f : Tm) (j : Int) (U : Ty) : Red (.mk 6 i T [b, f, .mk 4 j U []]) b
  | succ (i : Int) (T : Ty) (b f : Tm) (j : Int) (U : Ty) (n : Tm) : Red (.mk 6 i T [b, f, .mk 5 j U [n]]) (.mk 3 0 .zero [.mk 3 0 .zero [f, n], .mk 6 i T [b, f, n]])
  | nil (i : Int) (T : Ty) (b f : Tm) (j : Int) (U : Ty) : Red (.mk 9 i T [b, f, .mk 7 j U []]) b
  | cons (i : Int) (T : Ty) (b f : Tm) (j : Int) (U : Ty) (h l : Tm) : Red (.mk 9 i T [b, f, .mk 8 j U [h, l]]) (.mk 3 0 .zero [.mk 3 0 .zero [.mk 3 0 .zero [f, h], l], .mk 9 i T [b, f, l]])
  | fst (i : Int) (T : Ty) (j : Int) (U : Ty) (a c : Tm) : Red (.mk 11 i T [.mk 10 j U [a, c]]) a
  | snd (i : Int) (T : Ty) (j : Int) (U : Ty) (a c : Tm) : Red (.mk 12 i T [.mk 10 j U [a, c]]) c

theorem red_of {t : Tm} (hok : t.ok = true) (hr : t.redex = true) : Red t t.becomes := by
  obtain ⟨k, i, T, l⟩ := t
  replace hr : redexOf k l = true := hr
  unfold redexOf at hr
  have hl := ok_len hok
  split at hr
  · rename_i hk
    subst hk
    obtain ⟨f, a, rfl⟩ := len2 (l := l) (by rw [hl]; rfl)
    have hf := ok_arg hok (a := f) (by simp)
    have hr : f.kind = 2 := by simpa using hr
    obtain ⟨b, e⟩ := ok_form1 hf hr rfl
    rw [e]
    exact Red.app i T _ _ b a
  · split at hr
    · rename_i hk
      subst hk
      obtain ⟨b, f, n, rfl⟩ := len3 (l := l) (by rw [hl]; rfl)
      have hn := ok_arg hok (a := n) (by simp)
      have hr : n.kind = 4 ∨ n.kind = 5 := by simpa using hr
      rcases hr with hr | hr
      · have e := ok_form0 hn hr rfl
        rw [e]
        exact Red.zero i T b f _ _
      · obtain ⟨m, e⟩ := ok_form1 hn hr rfl
        rw [e]
        exact Red.succ i T b f _ _ m
    · split at hr
      · rename_i hk
        subst hk
        obtain ⟨b, f, n, rfl⟩ := len3 (l := l) (by rw [hl]; rfl)
        have hn := ok_arg hok (a := n) (by simp)
        have hr : n.kind = 7 ∨ n.kind = 8 := by simpa using hr
        rcases hr with hr | hr
        · have e := ok_form0 hn hr rfl
          rw [e]
          exact Red.nil i T b f _ _
        · obtain ⟨x, y, e⟩ := ok_form2 hn hr rfl
          rw [e]
          exact Red.cons i T b f _ _ x y
      · split at hr
        · rename_i hk
          rcases hk with hk | hk
          · subst hk
            obtain ⟨p, rfl⟩ := len1 (l := l) (by rw [hl]; rfl)
            have hp := ok_arg hok (a := p) (by simp)
            have hr : p.kind = 10 := by simpa using hr
            obtain ⟨x, y, e⟩ := ok_form2 hp hr rfl
            rw [e]
            exact Red.fst i T _ _ x y
          · subst hk
            obtain ⟨p, rfl⟩ := len1 (l := l) (by rw [hl]; rfl)
            have hp := ok_arg hok (a := p) (by simp)
            have hr : p.kind = 10 := by simpa using hr
            obtain ⟨x, y, e⟩ := ok_form2 hp hr rfl
            rw [e]
            exact Red.snd i T _ _ x y
        · cases hr

/-! Small variables. -/
mutual
theorem lift_low {n : Int} : ∀ (t : Tm) (m b : Nat), t.low n = true → (t.lift m b).low (n + b) = true
  | .mk k i T l, m, b, h => by
    rw [Tm.low, Bool.and_eq_true] at h
    have h1 := of_decide_eq_true h.1
    rw [Tm.lift, Tm.low, Bool.and_eq_true]
    exact ⟨decide_eq_true (by split <;> omega), liftAll_low l _ b h.2⟩
theorem liftAll_low {n : Int} : ∀ (l : List Tm) (m b : Nat), lowAll l n = true → lowAll (liftAll l m b) (n + b) = true
  | [], _, _, _ => by simp [liftAll, lowAll]
  | t :: r, m, b, h => by
    simp only [lowAll, Bool.and_eq_true] at h
    simp only [liftAll, lowAll, Bool.and_eq_true]
    exact ⟨lift_low t m b h.1, liftAll_low r m b h.2⟩
end
mutual
theorem put_low {n : Int} (s : Tm) (hs : s.low n = true) : ∀ (t : Tm) (m : Nat), t.low n = true → (t.put m s).low (n + m + t.size) = true
  | .mk k i T l, m, h => by
    have h0 := h
    rw [Tm.low, Bool.and_eq_true] at h
    have h1 := of_decide_eq_true h.1
    rw [Tm.put]
    simp only [Tm.size]
    split
    · split
      · exact low_mono (by omega) _ (lift_low s 0 m hs)
      · split
        · rw [Tm.low, Bool.and_eq_true]
          exact ⟨decide_eq_true (by omega), lowAll_mono (by omega) l h.2⟩
        · exact low_mono (by omega) _ h0
    · rw [Tm.low, Bool.and_eq_true]
      refine ⟨decide_eq_true (by omega), lowAll_mono ?_ _ (putAll_low s hs l (if k = 2 then m + 1 else m) h.2)⟩
      split <;> omega
theorem putAll_low {n : Int} (s : Tm) (hs : s.low n = true) : ∀ (l : List Tm) (m : Nat), lowAll l n = true → lowAll (putAll l m s) (n + m + sizeAllT l) = true
  | [], _, _ => by simp [putAll, lowAll]
  | t :: r, m, h => by
    simp only [lowAll, Bool.and_eq_true] at h
    simp only [putAll, lowAll, Bool.and_eq_true, sizeAllT]
    exact ⟨low_mono (by omega) _ (put_low s hs t m h.1), lowAll_mono (by omega) _ (putAll_low s hs r m h.2)⟩
end
theorem low_mk {k i : Int} {T : Ty} {l : List Tm} {n : Int} : (Tm.mk k i T l).low n = true ↔ i ≤ n ∧ lowAll l n = true := by rw [Tm.low, Bool.and_eq_true, decide_eq_true_eq]

theorem Red.low {t u : Tm} {n : Int} (h : Red t u) (hn : 0 ≤ n) (hl : t.low n = true) : u.low (n + t.size) = true := by
  have hx : n ≤ n + t.size := by omega
  cases h with
  | app i T j U b a =>
    simp only [low_mk, lowAll, Bool.and_eq_true, and_true] at hl
    have := put_low a hl.2.2 b 0 hl.2.1.2
    refine low_mono ?_ _ this
    simp only [Tm.size, sizeAllT]; omega
  | zero =>
    simp only [low_mk, lowAll, Bool.and_eq_true, and_true] at hl
    exact low_mono hx _ hl.2.1
  | nil =>
    simp only [low_mk, lowAll, Bool.and_eq_true, and_true] at hl
    exact low_mono hx _ hl.2.1
  | succ i T b f j U m =>
    generalize (Tm.mk 6 i T [b, f, .mk 5 j U [m]]).size = z at hx ⊢
    simp only [low_mk, lowAll, Bool.and_eq_true, and_true] at hl ⊢
    obtain ⟨h1, h2, h3, h4, h5⟩ := hl
    exact ⟨by omega, ⟨by omega, low_mono hx _ h3, low_mono hx _ h5⟩, by omega, low_mono hx _ h2, low_mono hx _ h3, low_mono hx _ h5⟩
  | cons i T b f j U x y =>
    generalize (Tm.mk 9 i T [b, f, .mk 8 j U [x, y]]).size = z at hx ⊢
    simp only [low_mk, lowAll, Bool.and_eq_true, and_true] at hl ⊢
    obtain ⟨h1, h2, h3, h4, h5, h6⟩ := hl
    exact ⟨by omega, ⟨by omega, ⟨by omega, low_mono hx _ h3, low_mono hx _ h5⟩, low_mono hx _ h6⟩, by omega, low_mono hx _ h2, low_mono hx _ h3, low_mono hx _ h6⟩
  | fst =>
    simp only [low_mk, lowAll, Bool.and_eq_true, and_true] at hl
    exact low_mono hx _ hl.2.2.1
  | snd =>
    simp only [low_mk, lowAll, Bool.and_eq_true, and_true] at hl
    exact low_mono hx _ hl.2.2.2

/-! Form. -/
theorem app_ok {f a : Tm} (hf : f.ok = true) (ha : a.ok = true) : (Tm.mk 3 0 .zero [f, a]).ok = true := by
  rw [okT_eq]; simp [okAllT, hf, ha, Tm.args, Tm.formed, Tm.kind, Tm.index, Tm.type, arities, Ty.zero, Ty.kind, Ty.args]
theorem formed_len {k i : Int} {T : Ty} {l m : List Tm} (h : l.length = m.length) : (Tm.mk k i T l).formed = (Tm.mk k i T m).formed := by
  simp only [Tm.formed, Tm.kind, Tm.index, Tm.type, Tm.args, h]
  rfl
theorem ok_same {k i : Int} {T : Ty} {l m : List Tm} (h : (Tm.mk k i T l).ok = true) (hlen : m.length = l.length) (hm : ∀ a ∈ m, a.ok = true) : (Tm.mk k i T m).ok = true := by
  rw [Tm.ok, Bool.and_eq_true] at h ⊢
  refine ⟨by rw [formed_len hlen]; exact h.1, ?_⟩
  clear h hlen
  induction m with
  | nil => simp [okAllT]
  | cons a r ih => simp only [okAllT, Bool.and_eq_true]; exact ⟨hm a (by simp), ih fun b hb => hm b (by simp [hb])⟩
theorem Red.ok {t u : Tm} (h : Red t u) (ho : t.ok = true) : u.ok = true := by
  cases h with
  | app i T j U b a => exact put_ok a (ok_arg ho (by simp)) b 0 (ok_arg (ok_arg ho (a := .mk 2 j U [b]) (by simp)) (by simp))
  | zero | nil => exact ok_arg ho (by simp)
  | succ i T b f j U m =>
    have hb := ok_arg ho (a := b) (by simp)
    have hf := ok_arg ho (a := f) (by simp)
    have hm := ok_arg (ok_arg ho (a := .mk 5 j U [m]) (by simp)) (a := m) (by simp)
    exact app_ok (app_ok hf hm) (ok_same ho rfl (by intro a h; simp at h; rcases h with rfl | rfl | rfl <;> assumption))
  | cons i T b f j U x y =>
    have hb := ok_arg ho (a := b) (by simp)
    have hf := ok_arg ho (a := f) (by simp)
    have hx := ok_arg (ok_arg ho (a := .mk 8 j U [x, y]) (by simp)) (a := x) (by simp)
    have hy := ok_arg (ok_arg ho (a := .mk 8 j U [x, y]) (by simp)) (a := y) (by simp)
    exact app_ok (app_ok (app_ok hf hx) hy) (ok_same ho rfl (by intro a h; simp at h; rcases h with rfl | rfl | rfl <;> assumption))
  | fst i T j U _ c => exact ok_arg (ok_arg ho (a := .mk 10 j U [u, c]) (by simp)) (by simp)
  | snd i T j U a _ => exact ok_arg (ok_arg ho (a := .mk 10 j U [a, u]) (by simp)) (by simp)

/-- A step is a redex somewhere. -/
inductive Deep : Tm → Tm → Prop
  | here {t u : Tm} (h : Red t u) : Deep t u
  | arg (k i : Int) (T : Ty) (l : List Tm) (j : Nat) (hj : j < l.length) (u : Tm) (h : Deep l[j] u) : Deep (.mk k i T l) (.mk k i T (l.set j u))

theorem okAllT_mem {l : List Tm} (h : okAllT l = true) {a : Tm} (ha : a ∈ l) : a.ok = true := by
  obtain ⟨j, hj, rfl⟩ := List.mem_iff_getElem.1 ha
  exact okAllT_get h j hj
mutual
theorem next_deep : ∀ (t : Tm) {u : Tm}, t.ok = true → t.next = some u → Deep t u
  | .mk k i T l, u, hok, h => by
    rw [next_mk] at h
    split at h
    · rename_i hr
      simp only [Option.some.injEq] at h
      rw [← h]
      exact .here (red_of hok hr)
    · rw [Tm.ok, Bool.and_eq_true] at hok
      cases hn : nextAll l with
      | none => rw [hn] at h; cases h
      | some m =>
        rw [hn] at h
        simp only [Option.map_some, Option.some.injEq] at h
        obtain ⟨j, hj, v, hd, hm⟩ := nextAll_deep l hok.2 hn
        rw [← h, hm]
        exact .arg k i T l j hj v hd
theorem nextAll_deep : ∀ (l : List Tm) {m : List Tm}, okAllT l = true → nextAll l = some m → ∃ (j : Nat) (hj : j < l.length) (v : Tm), Deep l[j] v ∧ m = l.set j v
  | [], m, _, h => by rw [nextAll] at h; cases h
  | t :: r, m, hok, h => by
    simp only [okAllT, Bool.and_eq_true] at hok
    rw [nextAll] at h
    cases ht : t.next with
    | some u =>
      rw [ht] at h
      simp only [Option.some.injEq] at h
      exact ⟨0, by simp, u, by simpa using next_deep t hok.1 ht, by rw [← h]; rfl⟩
    | none =>
      rw [ht] at h
      simp only at h
      cases hr : nextAll r with
      | none => rw [hr] at h; cases h
      | some s =>
        rw [hr] at h
        simp only [Option.map_some, Option.some.injEq] at h
        obtain ⟨j, hj, v, h1, h2⟩ := nextAll_deep r hok.2 hr
        exact ⟨j + 1, by simpa using hj, v, by simpa using h1, by rw [← h, h2]; rfl⟩
end
theorem Deep.ok {t u : Tm} (h : Deep t u) : t.ok = true → u.ok = true := by
  induction h with
  | here h => exact h.ok
  | arg k i T l j hj u h ih =>
    intro ho
    refine ok_same ho (by simp) fun a ha => ?_
    rcases List.mem_or_eq_of_mem_set ha with h1 | rfl
    · exact ok_arg ho h1
    · exact ih (ok_arg ho (List.getElem_mem hj))
theorem lowAll_set {n : Int} {l : List Tm} {j : Nat} {u : Tm} (h : lowAll l n = true) (hu : u.low n = true) : lowAll (l.set j u) n = true := by
  induction l generalizing j with
  | nil => exact h
  | cons t r ih =>
    simp only [lowAll, Bool.and_eq_true] at h
    cases j with
    | zero => simp only [List.set_cons_zero, lowAll, Bool.and_eq_true]; exact ⟨hu, h.2⟩
    | succ j => simp only [List.set_cons_succ, lowAll, Bool.and_eq_true]; exact ⟨h.1, ih h.2⟩
theorem Deep.low {t u : Tm} {n : Int} (h : Deep t u) (hn : 0 ≤ n) : t.low n = true → u.low (n + t.size) = true := by
  induction h with
  | here h => exact h.low hn
  | arg k i T l j hj u h ih =>
    intro hl
    rw [low_mk] at hl ⊢
    have h1 := ih (lowAll_get hl.2 j hj)
    have h2 := sizeAllT_get l j hj
    simp only [Tm.size]
    exact ⟨by omega, lowAll_set (lowAll_mono (by omega) _ hl.2) (low_mono (by omega) _ h1)⟩

end Go.Proofs.YtifijgihcincfaaDoor
namespace Go.Proofs.YtifijgihcincfaaDoor
open Go.RowKit

mutual
/-- The greatest index. -/
def Tm.top : Tm → Int
  | .mk _ i _ l => topAll l i
def topAll : List Tm → Int → Int
  | [], m => m
  | t :: r, m => topAll r (max m t.top)
end
theorem topAll_snoc : ∀ (l : List Tm) (t : Tm) (m : Int), topAll (l ++ [t]) m = max (topAll l m) t.top
  | [], t, m => by simp [topAll]
  | x :: l, t, m => by simp only [List.cons_append, topAll, topAll_snoc l t]
mutual
theorem top_low {n : Int} : ∀ (t : Tm), t.low n = true → t.top ≤ n
  | .mk k i T l, h => by
    rw [low_mk] at h
    rw [Tm.top]
    exact topAll_low l i h.1 h.2
theorem topAll_low {n : Int} : ∀ (l : List Tm) (m : Int), m ≤ n → lowAll l n = true → topAll l m ≤ n
  | [], m, h, _ => by simpa [topAll] using h
  | t :: r, m, h, hl => by
    simp only [lowAll, Bool.and_eq_true] at hl
    rw [topAll]
    exact topAll_low r _ (by have := top_low t hl.1; omega) hl.2
end
theorem topAll_ge : ∀ (l : List Tm) (m : Int), m ≤ topAll l m
  | [], m => by simp [topAll]
  | t :: r, m => by rw [topAll]; have := topAll_ge r (max m t.top); omega
theorem top_nat {t : Tm} (h : t.ok = true) : 0 ≤ t.top := by
  obtain ⟨k, i, T, l⟩ := t
  rw [Tm.ok, Bool.and_eq_true] at h
  have := (formed_kind h.1).2.2.2.1
  have h2 := topAll_ge l i
  rw [Tm.top]
  exact Int.le_trans this h2

theorem lowAll_split {n : Int} : ∀ {l r : List Tm}, lowAll (l ++ r) n = true → lowAll l n = true ∧ lowAll r n = true
  | [], r, h => ⟨by simp [lowAll], h⟩
  | t :: l, r, h => by
    simp only [List.cons_append, lowAll, Bool.and_eq_true] at h ⊢
    have := lowAll_split h.2
    exact ⟨⟨h.1, this.1⟩, this.2⟩

def MeasR (t : Tm) (w : World) (e : Ending) (w' : World) : Prop := e = .returned (.tuple #[.int .i64 (t.size : Int), .int .i64 t.top]) ∧ Below w.heap.size w w'

set_option maxRecDepth 100000 in
set_option maxHeartbeats 4000000 in
theorem measure_any (N : Nat) : ∀ (t : Tm) (v : Value) (w : World), t.bulk ≤ N → N ≤ 400000 → t.ok = true → t.low 1000000000 = true → IsTm (· < w.heap.size) w t v →
    Calls Tryd.prog 70 #[v] w (MeasR t w) := by
  induction N with
  | zero => intro t; have := bulk_pos t; omega
  | succ N ih =>
    rintro ⟨k, i, T, l⟩ v w hN hN4 hok hlow hT
    have IH := Lib.hid ih
    clear ih
    obtain ⟨B, d0, A, a0, rfl, hty, hl⟩ := hT.mk_parts
    have htop := top_low _ hlow
    rw [Tm.ok, Bool.and_eq_true] at hok
    have hi0 := (formed_kind hok.1).2.2.2.1
    have HOK := Lib.hid hok.2
    rw [low_mk] at hlow
    have hi1 := hlow.1
    have HLOW := Lib.hid hlow.2
    have hi0 : 0 ≤ i := hi0
    simp only [Tm.bulk] at hN
    have hll := bulkAll_len l
    have hsb := sizeAll_bulk l
    have HL := Lib.hid hl
    clear hok hlow hty hl hT htop
    go_enter Tryd.func70, Tryd.ntmps70
    go_upto_region 1 with fail
    obtain ⟨b1, z1, k0⟩ := new_blk (Below.refl w.heap.size w) (Nat.le_refl _) #[.int .i64 k, .int .i64 i, .int .i64 T.kind, .slice B T.args.length d0, .slice A l.length a0] 34
    generalize w.alloc (Obj.cells #[.int .i64 k, .int .i64 i, .int .i64 T.kind, .slice B T.args.length d0, .slice A l.length a0] 34) = W at b1 z1 k0 ⊢
    have HB := Lib.hid (And.intro b1 z1)
    obtain ⟨r0, r1, r2, r3, r4, _, _, _, _, _⟩ := k0.facts5
    have s0 := fun n => (k0.drewN n).facts5.1
    have s4 := fun n => (k0.drewN n).facts5.2.2.2.2.1
    clear b1 z1 k0
    go_quiet (fail)
    go_wp2_with fail
    have HV := Lib.hid (show Below w.heap.size w (W.drewN nq) from below_drewN HB.out.1 nq)
    generalize W.drewN nq = V at HV ⊢
    clear r0 r1 r2 r3 r4 s0 s4
    go_loopw [2, 3, 13] (fun c g ix wr => ∃ j : Nat, j ≤ l.length ∧ ix = .int .i64 j ∧ c = .int .i64 (1 + (sizeAllT (l.take j) : Int)) ∧ g = .int .i64 (topAll (l.take j) i) ∧ Below w.heap.size w wr)
      (fun _ _ ix _ => l.length - (intOf ix).toNat)
    case atStart => exact ⟨0, by omega, rfl, by simp [sizeAllT], by simp [topAll], HV.out⟩
    case round =>
      obtain ⟨j, hj, rfl, rfl, rfl, hb⟩ := hrel
      by_cases hlt : j < l.length
      · have hlr : TmR.Sl (· < w.heap.size) wr l (.slice A l.length a0) := HL.out.keep (fun _ h => h) (fun p hp => hb.cell hp)
        obtain ⟨a, rfl, ha, hat⟩ := hlr.get j hlt
        obtain ⟨B1, d1, A1, c1, q0, q1, q2, q3, q4, hx⟩ := at_tm hat
        change wr.cell? (a.add (j * 5)) = _ at q0
        simp only [show TmR.n = 5 from rfl] at q1 q2 q3 q4
        have hbj := bulkAll_get l j hlt
        have hoj := okAllT_get HOK.out j hlt
        have hlj := lowAll_get HLOW.out j hlt
        have ht0 := top_nat hoj
        have ht1 := top_low _ hlj
        have hg0 := topAll_ge (l.take j) i
        have hg1 : topAll (l.take j) i ≤ 1000000000 := topAll_low _ i hi1 (by
          have := HLOW.out
          rw [← List.take_append_drop j l] at this
          exact (lowAll_split this).1)
        have hsj : sizeAllT (l.take j) + l[j].size ≤ 400000 := by
          have h1 := size_bulk l[j]
          have h2 : sizeAllT (l.take (j + 1)) ≤ sizeAllT l := by
            conv => rhs; rw [← List.take_append_drop (j + 1) l]
            rw [sizeAllT_append]; omega
          rw [List.take_succ_eq_append_getElem hlt, sizeAllT_append] at h2
          simp only [sizeAllT] at h2
          omega
        have HS := Lib.hid (show (1 + (sizeAllT (l.take (j + 1)) : Int)) = 1 + (sizeAllT (l.take j) : Int) + (l[j].size : Int) by
          rw [List.take_succ_eq_append_getElem hlt, sizeAllT_append]; simp only [sizeAllT]; omega)
        have HG := Lib.hid (show topAll (l.take (j + 1)) i = max (topAll (l.take j) i) l[j].top by rw [List.take_succ_eq_append_getElem hlt, topAll_snoc])
        have HH := Lib.hid (And.intro hoj (And.intro hlj hx))
        have HB1 := Lib.hid hb
        have hbz := hb.size
        clear hx hat hlr hoj hlj hb
        go_wp2_with fail
        have hbx := below_box wr (Obj.cells #[.int .i64 l[j].kind, .int .i64 l[j].index, .int .i64 l[j].type.kind, .slice B1 l[j].type.args.length d1, .slice A1 l[j].args.length c1] 34)
        refine (IH.out l[j] _ _ (by omega) (by omega) HH.out.1 HH.out.2.1 (IsTm.keep (fun b h => by simp; omega) (fun p hp => World.cell?_alloc_lt _ _ _ (by omega)) _ HH.out.2.2)).mono ?_
        rintro e w1 ⟨rfl, hb1⟩
        have HB2 := Lib.hid (HB1.out.trans ((hbx.trans (hb1.mono hbx.size)).mono hbz))
        clear hb1 hbx
        go_wp2_with fail
        go_roundw
        case rel => exact ⟨j + 1, by omega, by go_num, by rw [HS.out], by rw [HG.out]; congr 1; split <;> omega, HB2.out⟩
        case measure => simp [intOf]; omega
      · have hjl : j = l.length := by omega
        subst hjl
        rw [List.take_length]
        have HB1 := Lib.hid hb
        clear hb
        go_wp2_with fail
        go_ret2
        exact ⟨by simp [Tm.size, Tm.top], HB1.out⟩
end Go.Proofs.YtifijgihcincfaaDoor
namespace Go.Proofs.YtifijgihcincfaaDoor
open Go.RowKit

def RedexR (b : Bool) (w : World) (e : Ending) (w' : World) : Prop := e = .returned (.bool b) ∧ Below w.heap.size w w'

set_option maxRecDepth 100000 in
set_option maxHeartbeats 4000000 in
theorem redex_any (t : Tm) (v : Value) (w : World) (hok : t.ok = true ∨ t.kind = 0) (hT : IsTm (· < w.heap.size) w t v) :
    Calls Tryd.prog 91 #[v] w (RedexR t.redex w) := by
  obtain ⟨k, i, T, l⟩ := t
  obtain ⟨B, d0, A, a0, rfl, hty, hl⟩ := hT.mk_parts
  have hb1 := below_box w (Obj.cells #[.int .i64 k, .int .i64 i, .int .i64 T.kind, .slice B T.args.length d0, .slice A l.length a0] 34)
  have hlW := hl.keep (S' := (· < w.heap.size)) (w' := w.alloc (Obj.cells #[.int .i64 k, .int .i64 i, .int .i64 T.kind, .slice B T.args.length d0, .slice A l.length a0] 34)) (fun _ h => h) (fun p hp => hb1.cell hp)
  have hr : (Tm.mk k i T l).redex = redexOf k l := rfl
  rw [hr]
  clear hr hT hty hl
  by_cases h3 : k = 3 ∨ k = 11 ∨ k = 12
  · have hok := hok.resolve_right (show ¬ (Tm.mk k i T l).kind = 0 from fun e => by have e : k = 0 := e; omega)
    have hlen : 0 < l.length := by rw [ok_len hok]; rcases h3 with rfl | rfl | rfl <;> decide
    obtain ⟨a, B1, d1, A1, c1, rfl, ha, q0, _, _, _, _, _⟩ := sl_child hlW 0 hlen
    rw [Nat.zero_mul, add_zero'] at q0
    have hg : (l.getD 0 .void) = l[0] := by rw [List.getD_eq_getElem?_getD, List.getElem?_eq_getElem hlen]; rfl
    have hre : redexOf k l = (l[0].kind == (if k = 3 then 2 else 10)) := by
      unfold redexOf
      rw [hg]
      rcases h3 with rfl | rfl | rfl <;> simp
    rw [hre]
    have HB := Lib.hid hb1
    have hl0 : (0 : Int) < (l.length : Int) := by omega
    clear hok hlW hg hre hb1
    generalize l[0].kind = kk at q0 ⊢
    rcases h3 with rfl | rfl | rfl
    all_goals
      go_enter Tryd.func91, Tryd.ntmps91
      go_wp2_with fail
      go_ret
      exact ⟨rfl, HB.out⟩
  · by_cases h6 : k = 6 ∨ k = 9
    · have hok := hok.resolve_right (show ¬ (Tm.mk k i T l).kind = 0 from fun e => by have e : k = 0 := e; omega)
      have hlen : 2 < l.length := by rw [ok_len hok]; rcases h6 with rfl | rfl <;> decide
      obtain ⟨a, B1, d1, A1, c1, rfl, ha, q0, _, _, _, _, _⟩ := sl_child hlW 2 hlen
      have hg : (l.getD 2 .void) = l[2] := by rw [List.getD_eq_getElem?_getD, List.getElem?_eq_getElem hlen]; rfl
      have hre : redexOf k l = (l[2].kind == (if k = 6 then 4 else 7) || l[2].kind == (if k = 6 then 5 else 8)) := by
        unfold redexOf
        rw [hg]
        rcases h6 with rfl | rfl <;> simp
      rw [hre]
      have HB := Lib.hid hb1
      have hl0 : (2 : Int) < (l.length : Int) := by omega
      simp [Addr.add] at q0
      clear hok hlW hg hre hb1 h3
      generalize l[2].kind = kk at q0 ⊢
      rcases h6 with rfl | rfl
      · by_cases h4 : kk = 4
        · subst h4
          go_enter Tryd.func91, Tryd.ntmps91
          go_wp2_with fail
          go_ret
          exact ⟨rfl, HB.out⟩
        · have e4 : (kk == 4) = false := by simpa using h4
          clear h4
          go_enter Tryd.func91, Tryd.ntmps91
          go_wp2_with fail
          go_ret
          exact ⟨ret_boolD (by simp [e4]), HB.out⟩
      · by_cases h4 : kk = 7
        · subst h4
          go_enter Tryd.func91, Tryd.ntmps91
          go_wp2_with fail
          go_ret
          exact ⟨rfl, HB.out⟩
        · have e4 : (kk == 7) = false := by simpa using h4
          clear h4
          go_enter Tryd.func91, Tryd.ntmps91
          go_wp2_with fail
          go_ret
          exact ⟨ret_boolD (by simp), HB.out⟩
    · have hre : redexOf k l = false := by
        unfold redexOf
        rw [if_neg (by omega), if_neg (by omega), if_neg (by omega), if_neg (by omega)]
      rw [hre]
      have e1 : (k == 3) = false := by simp; omega
      have e2 : (k == 6) = false := by simp; omega
      have e3 : (k == 9) = false := by simp; omega
      have e4 : (k == 11) = false := by simp; omega
      have e5 : (k == 12) = false := by simp; omega
      have HB := Lib.hid hb1
      clear hok hlW hre hb1 h3 h6
      go_enter Tryd.func91, Tryd.ntmps91
      go_wp2_with fail
      go_ret
      exact ⟨rfl, HB.out⟩
end Go.Proofs.YtifijgihcincfaaDoor
namespace Go.Proofs.YtifijgihcincfaaDoor
open Go.RowKit

theorem sl_of_own {S : Nat → Prop} {base : Nat} {v : Value} {l : List Tm} {w : World} (h : TmR.Own S base v l w) : TmR.Sl (fun b => (S b ∨ base ≤ b) ∧ b < w.heap.size) w l v := h.sl

set_option maxRecDepth 100000 in
set_option maxHeartbeats 4000000 in
theorem with_any (k i : Int) (T : Ty) (l : List Tm) (j : Nat) (U : Tm) (v u : Value) (S : Nat → Prop) (w : World) (hj : j < l.length) (hlen : l.length ≤ 1000000) (hS : ∀ b, S b → b < w.heap.size) (hT : IsTm S w (.mk k i T l) v) (hU : IsTm S w U u) :
    Calls Tryd.prog 109 #[v, .int .i64 j, u] w (LiftR S (.mk k i T (l.set j U)) w) := by
  obtain ⟨B, d0, A, a0, rfl, hty, hl⟩ := hT.mk_parts
  obtain ⟨Bu, du, Au, cu, rfl, _⟩ := IsTm.form hU
  go_enter Tryd.func109, Tryd.ntmps109
  go_upto_region 1 with fail
  obtain ⟨W, hW, bW, zW, k0, k1, k2⟩ := alloc3_facts w #[.int .i64 k, .int .i64 i, .int .i64 T.kind, .slice B T.args.length d0, .slice A l.length a0] #[.int .i64 U.kind, .int .i64 U.index, .int .i64 U.type.kind, .slice Bu U.type.args.length du, .slice Au U.args.length cu] #[.int .i64 0, .int .i64 0, .int .i64 0, .slice none 0 0, .slice none 0 0] 34 34 34
  rw [← hW]
  have HB := Lib.hid (And.intro bW zW)
  have HK := Lib.hid (And.intro k0 (And.intro k1 k2))
  have HS := Lib.hid hS
  have HTY := Lib.hid hty
  have HL := Lib.hid (hl.keep (S' := S) (fun _ h => h) (fun p hp => bW.cell (hS _ hp)))
  have HU := Lib.hid hU
  obtain ⟨r0, r1, r2, r3, r4, _, _, _, _, _⟩ := k0.facts5
  clear bW zW k0 k1 k2 hty hl hT hS hU hW
  go_wp2_with fail
  refine (cloneT_in S l _ W (fun b h => Nat.lt_of_lt_of_le (HS.out b h) HB.out.1.size) hlen HL.out).mono ?_
  rintro e w1 ⟨c, rfl, hown, hb1⟩
  obtain ⟨Ac, cc, rfl⟩ := hown.form
  have HO := Lib.hid hown
  have HB1 := Lib.hid hb1
  have k0w := HK.out.1.below hb1 HK.out.1.lt
  have k1w := HK.out.2.1.below hb1 HK.out.2.1.lt
  have k2w := HK.out.2.2.below hb1 HK.out.2.2.lt
  obtain ⟨s0, s1, s2, s3, s4, g0, g1, g2, g3, g4⟩ := k0w.facts5
  have k0' : Blk (w1.setCell ⟨w.heap.size, 4, none⟩ (.slice Ac l.length cc)) w.heap.size 34 #[.int .i64 k, .int .i64 i, .int .i64 T.kind, .slice B T.args.length d0, .slice Ac l.length cc] := by simpa using k0w.set_ 4 (.slice Ac l.length cc)
  have HKS := Lib.hid (And.intro k0' (And.intro (k1w.far (p := ⟨w.heap.size, 4, none⟩) (by simp) (.slice Ac l.length cc)) (k2w.far (p := ⟨w.heap.size, 4, none⟩) (by simp; omega) (.slice Ac l.length cc))))
  clear hown hb1 k0w k1w k2w k0' r0 r1 r2 r3 r4
  go_upto_region 2 with fail
  obtain ⟨k0', k1', k2'⟩ := HKS.out
  have hs := only_setCell (only_refl w1 (some w.heap.size)) (p := ⟨w.heap.size, 4, none⟩) (.inl rfl) (.slice Ac l.length cc)
  have hz := HB.out.2
  have hz1 := HB1.out.size
  have hown1 := HO.out.far hs (by omega) (fun h => by have := HS.out _ h; omega)
  have hb1 : Below w.heap.size w (w1.setCell ⟨w.heap.size, 4, none⟩ (.slice Ac l.length cc)) := (HB.out.1.trans (HB1.out.mono HB.out.1.size)).grown hs (HB.out.1.trans (HB1.out.mono HB.out.1.size)).size (fun k e => by cases e; exact Nat.le_refl _)
  generalize w1.setCell ⟨w.heap.size, 4, none⟩ (.slice Ac l.length cc) = W2 at k0' k1' k2' hs hown1 hb1 ⊢
  obtain ⟨xs, hxo, hxc⟩ := hown1
  obtain ⟨g, cap, hv, hg0, hg1⟩ := hxo.form (by omega)
  simp only [Value.slice.injEq] at hv
  obtain ⟨rfl, _, rfl⟩ := hv
  obtain ⟨⟨u0, h0⟩, f0⟩ := row_cells hxo hj (j * 5) (by omega) (by omega)
  obtain ⟨⟨u1, h1⟩, f1⟩ := row_cells hxo hj (j * 5 + 1) (by omega) (by omega)
  obtain ⟨⟨u2, h2⟩, f2⟩ := row_cells hxo hj (j * 5 + 2) (by omega) (by omega)
  obtain ⟨⟨u3, h3⟩, f3⟩ := row_cells hxo hj (j * 5 + 3) (by omega) (by omega)
  obtain ⟨⟨u4, h4⟩, f4⟩ := row_cells hxo hj (j * 5 + 4) (by omega) (by omega)
  obtain ⟨r0, r1, r2, r3, r4, _, _, _, _, _⟩ := k0'.facts5
  obtain ⟨p0, p1, p2, p3, p4, _, _, _, _, _⟩ := k1'.facts5
  have hU2 : IsTm (fun b => S b ∧ b < W2.heap.size ∧ g ≠ b) W2 U (.agg #[.int .i64 U.kind, .int .i64 U.index, .int .i64 U.type.kind, .slice Bu U.type.args.length du, .slice Au U.args.length cu]) :=
    IsTm.keep (fun b h => ⟨h, Nat.lt_of_lt_of_le (HS.out b h) hb1.size, fun e => by have := HS.out b h; omega⟩) (fun r hr => hb1.cell (HS.out _ hr)) _ HU.out
  have AFTER := Lib.hid (row_set5 (S := S) (base := W.heap.size) (g := g) (cap := cc) (j := j) (w := W2) (l := l) (U := U) (xs := xs) hj hxo hxc hU2)
  have HX := Lib.hid (And.intro k0' (And.intro k2' hb1))
  have hgw : W.heap.size ≤ g := hg0
  have hjj : (j : Int) < (l.length : Int) := by omega
  have hj0 : Int.toNat (j : Int) = j := by omega
  clear hxo hxc hU2 k0' k1' k2' hs hb1 s0 s1 s2 s3 s4 g0 g1 g2 g3 g4
  go_upto_region 3 with fail
  obtain ⟨hown3, hg3⟩ := AFTER.out
  obtain ⟨k0', k2', hb2⟩ := HX.out
  have k0'' := k0'.grown hg3 (by simp; omega)
  have k2'' := k2'.grown hg3 (by simp; omega)
  have hb3 := hb2.grown hg3 hb2.size (fun k e => by cases e; omega)
  clear r0 r1 r2 r3 r4 p0 p1 p2 p3 p4 h0 h1 h2 h3 h4 f0 f1 f2 f3 f4 k0' k2' hb2
  have e5 : ((((W2.setCell ⟨g, j * 5, none⟩ (.int .i64 U.kind)).setCell ⟨g, j * 5 + 1, none⟩ (.int .i64 U.index)).setCell ⟨g, j * 5 + 2, none⟩ (.int .i64 U.type.kind)).setCell ⟨g, j * 5 + 3, none⟩ (.slice Bu U.type.args.length du)).setCell ⟨g, j * 5 + 4, none⟩ (.slice Au U.args.length cu) = ((((W2.setCell ⟨g, j * 5, none⟩ (.int .i64 U.kind)).setCell ⟨g, j * 5 + 1, none⟩ (.int .i64 U.index)).setCell ⟨g, j * 5 + 2, none⟩ (.int .i64 U.type.kind)).setCell ⟨g, j * 5 + 3, none⟩ (.slice Bu U.type.args.length du)).setCell ⟨g, j * 5 + 4, none⟩ (.slice Au U.args.length cu) := rfl
  clear e5
  generalize ((((W2.setCell ⟨g, j * 5, none⟩ (.int .i64 U.kind)).setCell ⟨g, j * 5 + 1, none⟩ (.int .i64 U.index)).setCell ⟨g, j * 5 + 2, none⟩ (.int .i64 U.type.kind)).setCell ⟨g, j * 5 + 3, none⟩ (.slice Bu U.type.args.length du)).setCell ⟨g, j * 5 + 4, none⟩ (.slice Au U.args.length cu) = W3 at hown3 hg3 k0'' k2'' hb3 ⊢
  obtain ⟨r0, r1, r2, r3, r4, _, _, _, _, _⟩ := k0''.facts5
  obtain ⟨_, _, _, _, _, f0, f1, f2, f3, f4⟩ := k2''.facts5
  have HE := Lib.hid (And.intro k2'' (And.intro hown3 hb3))
  clear AFTER HX hg3 k0'' k2'' hown3 hb3
  go_wp2_with fail
  obtain ⟨y0, y1, y2, y3, y4⟩ := (HE.out.1.set5 (.int .i64 k) (.int .i64 i) (.int .i64 T.kind) (.slice B T.args.length d0) (.slice (some ⟨g, 0, none⟩) l.length cc)).cells5
  have hg := only_set5 W3 (w.heap.size + 1 + 1) (.int .i64 k) (.int .i64 i) (.int .i64 T.kind) (.slice B T.args.length d0) (.slice (some ⟨g, 0, none⟩) l.length cc)
  have hown2 := HE.out.2.1.far hg (by omega) (fun h => by have := HS.out _ h; omega)
  have hb2 := HE.out.2.2
  refine bodyPost_ret (v := .agg #[.int .i64 k, .int .i64 i, .int .i64 T.kind, .slice B T.args.length d0, .slice (some ⟨g, 0, none⟩) l.length cc]) (by simp [results, Tryd.results109, go_sem, y0, y1, y2, y3, y4]) rfl ⟨_, rfl, ?_, hb2.grown hg hb2.size (fun k e => by cases e; omega)⟩
  refine isTm_iff.2 ⟨rfl, rfl, IsTy.keep (fun b h => ⟨.inl h, Nat.lt_of_lt_of_le (HS.out b h) (Nat.le_trans hb2.size hg.size)⟩) (fun r hr => ?_) _ HTY.out, ?_⟩
  · have := HS.out _ hr
    exact (World.cell?_of_block (hg.block r.block (Nat.lt_of_lt_of_le this hb2.size) (by simp; omega))).trans (hb2.cell this)
  · have h := hown2.sl
    exact h.keep (fun b h => ⟨h.1.elim .inl (fun y => .inr (by omega)), h.2⟩) (fun _ _ => rfl)
end Go.Proofs.YtifijgihcincfaaDoor
namespace Go.Proofs.YtifijgihcincfaaDoor
open Go.RowKit

theorem Steps.ok {B : Nat} {K : Int → Bool} : ∀ {n : Nat} {t u : Tm}, Steps B K n t u → t.ok = true → u.ok = true
  | 0, t, u, h, ht => by
    have e : t = u := h
    exact e ▸ ht
  | n + 1, t, u, h, ht => by
    obtain ⟨v, h1, _, h3, _⟩ := h
    exact (next_deep v (h1.ok ht) h3).ok (h1.ok ht)
theorem Steps.size {B : Nat} {K : Int → Bool} : ∀ {n : Nat} {t u : Tm}, Steps B K n t u → B + t.size ≤ 4096 → B + u.size ≤ 4096
  | 0, t, u, h, ht => by
    have e : t = u := h
    exact e ▸ ht
  | n + 1, t, u, h, _ => by
    obtain ⟨v, _, _, _, h4⟩ := h
    exact h4
theorem Steps.low {B : Nat} {K : Int → Bool} {c : Int} (hc : 0 ≤ c) : ∀ {n : Nat} {t u : Tm}, Steps B K n t u → B + t.size ≤ 4096 → t.ok = true → t.low c = true → u.low (c + 4096 * n) = true
  | 0, t, u, h, _, _, hl => by
    have e : t = u := h
    subst e
    exact low_mono (by omega) _ hl
  | n + 1, t, u, h, hs, ho, hl => by
    obtain ⟨v, h1, _, h3, _⟩ := h
    have h5 := (next_deep v (h1.ok ho) h3).low (n := c + 4096 * n) (by omega) (h1.low hc hs ho hl)
    have h6 := h1.size hs
    exact low_mono (by omega) _ h5

/-- What a step comes to. -/
def Out (lim B n : Nat) (t u : Tm) (n' : Nat) (N' er : Int) : Prop :=
  (er = 5 ∧ n = lim ∧ u = t ∧ n' = n) ∨ (er = 0 ∧ n < lim ∧ u = t.becomes ∧ n' = n + 1 ∧ N' = ((B + u.size : Nat) : Int) ∧ B + u.size ≤ 4096) ∨ (er = 4 ∧ n < lim ∧ u = t ∧ n' = n ∧ 4096 < B + t.becomes.size)

/-- How a walk in a place stands: n steps are done before, m here; the Args before next are normal. -/
def Stand (B : Nat) (K : Int → Bool) (lim n m : Nat) (t u : Tm) (N e : Int) (next : Nat) : Prop :=
  Steps B K m t u ∧ n + m ≤ lim ∧ K u.kind = false ∧
    ((e = 0 ∧ N = ((B + u.size : Nat) : Int) ∧ (u.redex = true ∨ ∀ i (hi : i < u.args.length), i < next → u.args[i].next = none)) ∨
     (e = 5 ∧ n + m = lim ∧ u.next ≠ none) ∨ (e = 4 ∧ n + m < lim ∧ ∃ v, u.next = some v ∧ 4096 < B + v.size))
/-- How it ends. -/
def Ended (B : Nat) (K : Int → Bool) (lim n m : Nat) (t u : Tm) (N e : Int) : Prop := Ends B K (lim - n) m t u e ∧ n + m ≤ lim ∧ (e = 0 → N = ((B + u.size : Nat) : Int))

theorem Stand.start {B : Nat} {K : Int → Bool} {lim n : Nat} {t : Tm} (hn : n ≤ lim) (hk : K t.kind = false) : Stand B K lim n 0 t t ((B + t.size : Nat) : Int) 0 0 :=
  ⟨rfl, hn, hk, .inl ⟨rfl, rfl, .inr fun _ _ h => by omega⟩⟩
theorem Stand.failed {B : Nat} {K : Int → Bool} {lim n m next : Nat} {t u : Tm} {N e : Int} (h : Stand B K lim n m t u N e next) (he : e ≠ 0) : Ended B K lim n m t u N e := by
  obtain ⟨hs, hn, hk, h⟩ := h
  refine ⟨⟨hs, by omega, .inr ⟨hk, ?_⟩⟩, hn, fun e => (he e).elim⟩
  rcases h with h | h | h
  · exact (he h.1).elim
  · exact .inl ⟨h.1, by omega, h.2.2⟩
  · exact .inr ⟨h.1, by omega, h.2.2⟩
theorem Stand.normal {B : Nat} {K : Int → Bool} {lim n m next : Nat} {t u : Tm} {N : Int} (h : Stand B K lim n m t u N 0 next) (hr : u.redex = false) (hx : u.args.length ≤ next) : Ended B K lim n m t u N 0 := by
  obtain ⟨hs, hn, hk, h⟩ := h
  rcases h with ⟨_, h1, h2⟩ | h | h
  · refine ⟨⟨hs, by omega, .inl ⟨rfl, .inl ?_⟩⟩, hn, fun _ => h1⟩
    rcases h2 with h2 | h2
    · rw [hr] at h2; cases h2
    · obtain ⟨k, i, T, l⟩ := u
      exact next_none hr fun j hj => h2 j hj (by have : l.length ≤ next := hx; omega)
  · exact absurd h.1 (by decide)
  · exact absurd h.1 (by decide)
theorem redex_next {t : Tm} (h : t.redex = true) : t.next = some t.becomes := next_redex h

/-- A step at the root: the walk stands, or the node above has become a redex. -/
theorem Stand.step {B : Nat} {K : Int → Bool} {lim n m m' next : Nat} {t u v : Tm} {N N' e : Int} (h : Stand B K lim n m t u N 0 next) (hr : u.redex = true) (ho : Out lim B (n + m) u v m' N' e) :
    ∃ p, m' = n + p ∧ ((K v.kind = true ∧ Ended B K lim n p t v N' e) ∨ (K v.kind = false ∧ Stand B K lim n p t v N' e 0)) ∧ (e = 0 → p = m + 1) ∧ (e ≠ 0 → p = m) := by
  obtain ⟨hs, hn, hk, _⟩ := h
  rcases ho with ⟨rfl, h1, rfl, rfl⟩ | ⟨rfl, h1, rfl, rfl, h2, h3⟩ | ⟨rfl, h1, rfl, rfl, h2⟩
  · exact ⟨m, rfl, .inr ⟨hk, hs, hn, hk, .inr (.inl ⟨rfl, h1, by rw [redex_next hr]; simp⟩)⟩, fun h => absurd h (by decide), fun _ => rfl⟩
  · refine ⟨m + 1, by omega, ?_, fun _ => rfl, fun h => (h rfl).elim⟩
    have hs' : Steps B K (m + 1) t u.becomes := ⟨u, hs, hk, redex_next hr, h3⟩
    cases hv : K u.becomes.kind with
    | true => exact .inl ⟨rfl, ⟨hs', by omega, .inl ⟨rfl, .inr hv⟩⟩, by omega, fun _ => h2⟩
    | false => exact .inr ⟨rfl, hs', by omega, hv, .inl ⟨rfl, h2, .inr fun _ _ h => by omega⟩⟩
  · exact ⟨m, rfl, .inr ⟨hk, hs, hn, hk, .inr (.inr ⟨rfl, h1, _, redex_next hr, h2⟩)⟩, fun h => absurd h (by decide), fun _ => rfl⟩

/-- Whether the node above an Arg is a redex. -/
def aboveK (k : Int) (l : List Tm) (j : Nat) (x : Int) : Bool := redexOf k (l.set j (.mk x 0 .zero []))
theorem aboveK_eq (k : Int) (l : List Tm) (j : Nat) (a : Tm) : redexOf k (l.set j a) = aboveK k l j a.kind := redexOf_kind k l j a
theorem aboveK_self {k : Int} {l : List Tm} {j : Nat} (hj : j < l.length) (h : redexOf k l = false) : aboveK k l j l[j].kind = false := by
  rw [← aboveK_eq, List.set_getElem_self]; exact h
/-- The steps of an Arg are steps of the node. -/
theorem Stand.arg {B : Nat} {K : Int → Bool} {lim n m p j : Nat} {t : Tm} {k i : Int} {T : Ty} {l : List Tm} {v : Tm} {N N' e : Int} (h : Stand B K lim n m t (.mk k i T l) N 0 j) (hr : redexOf k l = false) (hj : j < l.length)
    (hE : Ended (B + (1 + sizeAllT l) - l[j].size) (aboveK k l j) lim (n + m) p l[j] v N' e) : Stand B K lim n (m + p) t (.mk k i T (l.set j v)) N' e (j + 1) := by
  obtain ⟨hs, hn, hk, h⟩ := h
  have hk' : K k = false := hk
  have hn' : ∀ i (hi : i < l.length), i < j → l[i].next = none := by
    rcases h with ⟨_, _, h | h⟩ | h | h
    · have e : redexOf k l = true := h
      rw [hr] at e; cases e
    · exact h
    · exact absurd h.1 (by decide)
    · exact absurd h.1 (by decide)
  obtain ⟨⟨h1, h2, h3⟩, h4, h5⟩ := hE
  have hss := Steps.arg (i := i) (T := T) hk' hj hn' h1
  have hz := fun (x : Tm) => sizeAllT_set l j x hj
  have hz0 := sizeAllT_get l j hj
  have hlen : (l.set j v).length = l.length := by simp
  have hat : ∀ {x : Tm}, aboveK k l j v.kind = false → v.next = some x → (Tm.mk k i T (l.set j v)).next = some (.mk k i T (l.set j x)) := fun {x} hb hx => by
    have := next_at (i := i) (T := T) (u := x) (show redexOf k (l.set j v) = false by rw [aboveK_eq]; exact hb) (j := j) (by simpa using hj) (fun q hq hqj => by
      rw [List.getElem_set_ne (by omega)]
      exact hn' q (by simpa using hq) hqj) (by rw [List.getElem_set_self]; exact hx)
    rw [this, List.set_set]
  refine ⟨hs.trans hss, by omega, hk', ?_⟩
  rcases h3 with ⟨rfl, h3⟩ | ⟨h6, h3 | h3⟩
  · refine .inl ⟨rfl, ?_, ?_⟩
    · rw [h5 rfl]
      have := hz v
      simp only [Tm.size]
      omega
    · rcases h3 with h3 | h3
      · have key : ∀ q (hq : q < (l.set j v).length), q < j + 1 → (l.set j v)[q].next = none := fun q hq hqj => by
          by_cases e : q = j
          · subst e; rw [List.getElem_set_self]; exact h3
          · rw [List.getElem_set_ne (by omega)]; exact hn' q (by omega) (by omega)
        exact .inr key
      · exact .inl (show redexOf k (l.set j v) = true by rw [aboveK_eq]; exact h3)
  · refine .inr (.inl ⟨h3.1, by omega, ?_⟩)
    cases hx : v.next with
    | none => exact (h3.2.2 hx).elim
    | some x => rw [hat h6 hx]; simp
  · obtain ⟨he, hl, x, hx, hxs⟩ := h3
    refine .inr (.inr ⟨he, by omega, _, hat h6 hx, ?_⟩)
    have := hz x
    simp only [Tm.size]
    omega
theorem next_parts {k i : Int} {T : Ty} {l : List Tm} (h : (Tm.mk k i T l).next = none) : redexOf k l = false ∧ ∀ j (hj : j < l.length), l[j].next = none := by
  rw [next_mk] at h
  split at h
  · cases h
  · rename_i hr
    refine ⟨by simpa using hr, nextAll_normal ?_⟩
    cases hn : nextAll l with
    | none => rfl
    | some m => rw [hn] at h; cases h

end Go.Proofs.YtifijgihcincfaaDoor
