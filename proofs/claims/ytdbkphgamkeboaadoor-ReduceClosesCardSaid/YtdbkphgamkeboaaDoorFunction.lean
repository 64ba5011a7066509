/- Function. -/
import Derived.Test.YtdbkphgamkeboaaDoorResultDefs
namespace Go.Proofs.YtdbkphgamkeboaaDoor
open Go.RowKit Go.Shelf

/-- The first error of some types. -/
def errs : List Ty → Int
  | [] => 0
  | t :: r => if t.err = 0 then errs r else t.err
def funErr (l : List Ty) (T : Ty) : Int := if errs l = 0 then if T.err = 0 then if l.length + nodesAll l + T.nodes ≤ 64 then 0 else 4 else T.err else errs l
def funTy (l : List Ty) (T : Ty) : Ty := l.foldr (fun a t => .mk 4 [a, t]) T

/-- The slice value v is the types ts. -/
def AreIn (S : Nat → Prop) (w : World) (ts : List Ty) (v : Value) : Prop := ∃ A c, v = .slice A ts.length c ∧ (ts ≠ [] → ∃ a, A = some a ∧ S a.block ∧ AreTys S w ts a)

theorem AreIn.keep {S S' : Nat → Prop} {w w' : World} {ts : List Ty} {v : Value} (h : AreIn S w ts v) (hS : ∀ b, S b → S' b) (hc : ∀ p : Addr, S p.block → w'.cell? p = w.cell? p) : AreIn S' w' ts v := by
  obtain ⟨A, c, hv, h⟩ := h
  refine ⟨A, c, hv, fun hne => ?_⟩
  obtain ⟨a, ha, hs, h⟩ := h hne
  exact ⟨a, ha, hS _ hs, AreTys.keep hS hc ts hs h⟩

theorem errs_take {l : List Ty} {j : Nat} (hj : j < l.length) (h : errs (l.take j) = 0) (he : l[j].err = 0) : errs (l.take (j + 1)) = 0 := by
  induction l generalizing j with
  | nil => simp at hj
  | cons t r ih =>
    cases j with
    | zero => simp at he; simp [errs, he]
    | succ j =>
      simp only [List.take_succ_cons, errs] at h ⊢
      split at h
      · rename_i h0
        rw [if_pos h0]
        exact ih (by simpa using hj) h (by simpa using he)
      · rename_i h0; exact absurd h h0
theorem errs_stop {l : List Ty} {j : Nat} (hj : j < l.length) (h : errs (l.take j) = 0) (he : l[j].err ≠ 0) : errs l = l[j].err := by
  induction l generalizing j with
  | nil => simp at hj
  | cons t r ih =>
    cases j with
    | zero => simp at he; simp [errs, he]
    | succ j =>
      simp only [List.take_succ_cons, errs] at h ⊢
      split at h
      · rename_i h0
        rw [if_pos h0]
        simpa using ih (by simpa using hj) h (by simpa using he)
      · rename_i h0; exact absurd h h0
theorem nodesAll_take (l : List Ty) (j : Nat) (hj : j < l.length) : nodesAll (l.take (j + 1)) = nodesAll (l.take j) + l[j].nodes := by
  rw [List.take_succ_eq_append_getElem hj, nodesAll_append]
  simp [nodesAll]
theorem nodesAll_take_le (l : List Ty) (j : Nat) : nodesAll (l.take j) ≤ nodesAll l := by
  have := nodesAll_append (l.take j) (l.drop j)
  rw [List.take_append_drop] at this
  omega
theorem err_count {T : Ty} (h : T.err = 0) : T.count = T.nodes := by
  have := err_zero.1 h
  simp [Ty.count, this]

/-- What Function returns, its parts in blocks of S or new. -/
def FunctionS (S : Nat → Prop) (l : List Ty) (T : Ty) (w : World) (e : Ending) (w' : World) : Prop :=
  Below w.heap.size w w' ∧ if funErr l T = 0 then ∃ v, e = .returned (.tuple #[v, .int .i64 0]) ∧ IsTy (fun b => (S b ∨ w.heap.size ≤ b) ∧ b < w'.heap.size) w' (funTy l T) v
    else e = .returned (.tuple #[.agg #[.int .i64 0, .slice none 0 0], .int .i64 (funErr l T)])
def FunctionR (l : List Ty) (T : Ty) (w : World) (e : Ending) (w' : World) : Prop :=
  Below w.heap.size w w' ∧ if funErr l T = 0 then ∃ v, e = .returned (.tuple #[v, .int .i64 0]) ∧ IsTy (· < w'.heap.size) w' (funTy l T) v
    else e = .returned (.tuple #[.agg #[.int .i64 0, .slice none 0 0], .int .i64 (funErr l T)])

theorem function_err {S : Nat → Prop} {w W0 w1 : World} {l : List Ty} {T : Ty} {e : Int} {x y : Value} (hb : Below w.heap.size w W0) (hz : W0.heap.size = w.heap.size + 2) (hb1 : Below W0.heap.size W0 w1) (he : funErr l T = e) (h0 : e ≠ 0) :
    FunctionS S l T w (.returned (.tuple #[.agg #[.int .i64 0, .slice none 0 0], .int .i64 e])) ((w1.setCell ⟨w.heap.size + 1, 0, none⟩ x).setCell ⟨w.heap.size + 1, 1, none⟩ y) := by
  have hB := hb.trans (hb1.mono (by omega))
  refine ⟨hB.grown (only_set2 w1 (w.heap.size + 1) _ _) hB.size (fun k e => by cases e; omega), ?_⟩
  rw [if_neg (by rw [he]; exact h0), he]

def FunRel (S : Nat → Prop) (w : World) (l : List Ty) (T : Ty) (i : Value) (wr : World) : Prop :=
  ∃ (j : Nat) (A : Option Addr) (c : Nat), j ≤ l.length ∧ i = .int .i64 ((j : Int) - 1) ∧ Blk wr w.heap.size 30 #[.int .i64 (funTy (l.drop j) T).kind, .slice A (funTy (l.drop j) T).args.length c] ∧
    IsTy (fun b => (S b ∨ w.heap.size + 2 ≤ b) ∧ b < wr.heap.size) wr (funTy (l.drop j) T) (.agg #[.int .i64 (funTy (l.drop j) T).kind, .slice A (funTy (l.drop j) T).args.length c]) ∧
    Blk wr (w.heap.size + 1) 30 #[.int .i64 0, .slice none 0 0] ∧ Below w.heap.size w wr

theorem funTy_drop (l : List Ty) (T : Ty) (i : Nat) (hi : i < l.length) : funTy (l.drop i) T = .mk 4 [l[i], funTy (l.drop (i + 1)) T] := by
  rw [List.drop_eq_getElem_cons hi]; rfl

theorem fun_step {S : Nat → Prop} {w wr : World} {l : List Ty} {T : Ty} {i : Nat} {A A' : Option Addr} {c c' : Nat} (hi : i < l.length)
    (hbx : Blk wr w.heap.size 30 #[.int .i64 (funTy (l.drop (i + 1)) T).kind, .slice A (funTy (l.drop (i + 1)) T).args.length c])
    (hU : IsTy (fun b => (S b ∨ w.heap.size + 2 ≤ b) ∧ b < wr.heap.size) wr (funTy (l.drop (i + 1)) T) (.agg #[.int .i64 (funTy (l.drop (i + 1)) T).kind, .slice A (funTy (l.drop (i + 1)) T).args.length c]))
    (hS : ∀ b, S b → b < w.heap.size) (ht : IsTy S wr l[i] (.agg #[.int .i64 l[i].kind, .slice A' l[i].args.length c']))
    (hrb : Blk wr (w.heap.size + 1) 30 #[.int .i64 0, .slice none 0 0]) (hbn : Below w.heap.size w wr) :
    FunRel S w l T (.int .i64 ((i : Int) - 1)) (((wr.alloc (.cells #[.int .i64 l[i].kind, .slice A' l[i].args.length c', .int .i64 (funTy (l.drop (i + 1)) T).kind, .slice A (funTy (l.drop (i + 1)) T).args.length c] 30)).setCell
      ⟨w.heap.size, 0, none⟩ (.int .i64 4)).setCell ⟨w.heap.size, 1, none⟩ (.slice (some ⟨wr.heap.size, 0, none⟩) 2 2)).drew := by
  have hs1 := hrb.lt
  have hw := hbn.size
  have b2 := (hbx.alloc (.cells #[.int .i64 l[i].kind, .slice A' l[i].args.length c', .int .i64 (funTy (l.drop (i + 1)) T).kind, .slice A (funTy (l.drop (i + 1)) T).args.length c] 30)).set2 (.int .i64 4) (.slice (some ⟨wr.heap.size, 0, none⟩) 2 2)
  have b3 := Blk.new wr 30 #[.int .i64 l[i].kind, .slice A' l[i].args.length c', .int .i64 (funTy (l.drop (i + 1)) T).kind, .slice A (funTy (l.drop (i + 1)) T).args.length c]
  have z := World.size_alloc wr (.cells #[.int .i64 l[i].kind, .slice A' l[i].args.length c', .int .i64 (funTy (l.drop (i + 1)) T).kind, .slice A (funTy (l.drop (i + 1)) T).args.length c] 30)
  have ga : wr.grownBy (wr.alloc (.cells #[.int .i64 l[i].kind, .slice A' l[i].args.length c', .int .i64 (funTy (l.drop (i + 1)) T).kind, .slice A (funTy (l.drop (i + 1)) T).args.length c] 30)) none := World.grownBy_alloc _ _ _
  have hg := only_drewN (only_set2 (wr.alloc (.cells #[.int .i64 l[i].kind, .slice A' l[i].args.length c', .int .i64 (funTy (l.drop (i + 1)) T).kind, .slice A (funTy (l.drop (i + 1)) T).args.length c] 30)) w.heap.size (.int .i64 4) (.slice (some ⟨wr.heap.size, 0, none⟩) 2 2)) 1
  have b2' := b2.drew
  change World.grownBy _ (World.drew _) _ at hg
  generalize (((wr.alloc (.cells #[.int .i64 l[i].kind, .slice A' l[i].args.length c', .int .i64 (funTy (l.drop (i + 1)) T).kind, .slice A (funTy (l.drop (i + 1)) T).args.length c] 30)).setCell
      ⟨w.heap.size, 0, none⟩ (.int .i64 4)).setCell ⟨w.heap.size, 1, none⟩ (.slice (some ⟨wr.heap.size, 0, none⟩) 2 2)).drew = W' at b2' hg ⊢
  have b3' := b3.grown hg (by simp; omega)
  have ra := hrb.grown ga (by simp)
  generalize wr.alloc (.cells #[.int .i64 l[i].kind, .slice A' l[i].args.length c', .int .i64 (funTy (l.drop (i + 1)) T).kind, .slice A (funTy (l.drop (i + 1)) T).args.length c] 30) = W1 at z ga hg ra
  have hz := hg.size
  have hkeep : ∀ p : Addr, p.block ≠ w.heap.size → p.block < wr.heap.size → W'.cell? p = wr.cell? p := fun p h1 h2 =>
    (World.cell?_of_block (hg.block p.block (by omega) (by simp; omega))).trans (World.cell?_of_block (ga.block p.block h2 (by simp)))
  refine ⟨i, some ⟨wr.heap.size, 0, none⟩, 2, by omega, rfl, ?_, ?_, ra.grown hg (by simp), (hbn.grown ga (by omega) (by simp)).grown hg (by omega) (fun k e => by cases e; exact Nat.le_refl _)⟩
  · rw [funTy_drop l T i hi]
    exact b2'
  · rw [funTy_drop l T i hi]
    unfold IsTy
    have e0 := b3'.cell 0
    have e1 := b3'.cell 1
    have e2 := b3'.cell 2
    have e3 := b3'.cell 3
    simp at e0 e1 e2 e3
    refine ⟨_, 2, rfl, fun _ => ⟨_, rfl, ⟨.inr (by show w.heap.size + 2 ≤ wr.heap.size; omega), by show wr.heap.size < W'.heap.size; omega⟩, ?_⟩⟩
    unfold AreTys
    refine ⟨⟨_, _, e0, by simpa [Addr.add] using e1, IsTy.keep (fun b hb => ⟨.inl hb, by have := hS b hb; omega⟩) (fun p hp => hkeep p (by have := hS _ hp; omega) (by have := hS _ hp; omega)) _ ht⟩, ?_⟩
    unfold AreTys
    refine ⟨⟨_, _, by simpa [Addr.add] using e2, by simpa [Addr.add] using e3, IsTy.keep (fun b hb => ⟨hb.1, by omega⟩) (fun p hp => hkeep p (by rcases hp.1 with h | h <;> first | omega | (have := hS _ h; omega)) hp.2) _ hU⟩, ?_⟩
    unfold AreTys
    trivial

theorem fun_end {S : Nat → Prop} {w wr : World} {l : List Ty} {T : Ty} {A : Option Addr} {c : Nat} (hS : ∀ b, S b → b < w.heap.size) (he : funErr l T = 0) (hbn : Below w.heap.size w wr)
    (hU : IsTy (fun b => (S b ∨ w.heap.size + 2 ≤ b) ∧ b < wr.heap.size) wr (funTy l T) (.agg #[.int .i64 (funTy l T).kind, .slice A (funTy l T).args.length c])) :
    FunctionS S l T w (.returned (.tuple #[.agg #[.int .i64 (funTy l T).kind, .slice A (funTy l T).args.length c], .int .i64 0]))
      ((wr.setCell ⟨w.heap.size + 1, 0, none⟩ (.int .i64 (funTy l T).kind)).setCell ⟨w.heap.size + 1, 1, none⟩ (.slice A (funTy l T).args.length c)) := by
  have hg := only_set2 wr (w.heap.size + 1) (.int .i64 (funTy l T).kind) (.slice A (funTy l T).args.length c)
  refine ⟨hbn.grown hg hbn.size (fun k e => by cases e; omega), ?_⟩
  rw [if_pos he]
  refine ⟨_, rfl, IsTy.keep (fun b hb => ⟨hb.1.imp id (fun h => by omega), Nat.lt_of_lt_of_le hb.2 hg.size⟩) (fun p hp => World.cell?_of_block (hg.block p.block hp.2 (fun e => ?_))) _ hU⟩
  have e' : p.block = w.heap.size + 1 := by simpa using e
  rcases hp.1 with h | h
  · have := hS _ h; omega
  · omega

set_option maxRecDepth 100000 in
set_option maxHeartbeats 2000000 in
theorem function_in (S : Nat → Prop) (l : List Ty) (T : Ty) (s v : Value) (w : World) (hS : ∀ b, S b → b < w.heap.size) (hsz : nodesAll l + T.nodes ≤ 400000) (hl : AreIn S w l s) (hT : IsTy S w T v) :
    Calls Tryd.prog 186 #[s, v] w (FunctionS S l T w) := by
  have HSS := Lib.hid hS
  clear hS
  obtain ⟨A, c, rfl⟩ := hT.form
  obtain ⟨B, cl, rfl, hl⟩ := hl
  obtain ⟨hz, hb, k0, k1⟩ := box2_facts w (.int .i64 T.kind) (.slice A T.args.length c)
  have hll := nodesAll_len l
  have HL := Lib.hid hl
  clear hl
  go_enter Tryd.func186, Tryd.ntmps186
  go_wp2_with fail
  generalize (w.alloc (Obj.cells #[Value.int IntKind.i64 T.kind, Value.slice A T.args.length c] 30)).alloc (Obj.cells #[Value.int IntKind.i64 0, .slice none 0 0] 30) = W0 at hz hb k0 k1 ⊢
  go_loopw [6, 18] (fun t i wr => ∃ j : Nat, j ≤ l.length ∧ i = .int .i64 j ∧ t = .int .i64 ((l.length + nodesAll (l.take j) : Nat) : Int) ∧ errs (l.take j) = 0 ∧ Below W0.heap.size W0 wr)
    (fun _ i _ => l.length - (intOf i).toNat)
  case atStart => exact ⟨0, by omega, rfl, by simp [nodesAll], rfl, Below.refl _ _⟩
  case round =>
    obtain ⟨j, hj, rfl, rfl, herr, hbw⟩ := hrel
    have HE := Lib.hid herr
    have hnt := nodesAll_take_le l j
    clear herr
    by_cases hlt : j < l.length
    · have hl0 : l ≠ [] := by intro e; subst e; simp at hlt
      obtain ⟨a, rfl, ha, hts⟩ := HL.out hl0
      have hBw : Below w.heap.size w wr := hb.trans (hbw.mono (by omega))
      have hts' : AreTys S wr l a := AreTys.keep (fun _ h => h) (fun p hp => hBw.cell (HSS.out _ hp)) _ ha hts
      obtain ⟨A', c', q0, q1, ht⟩ := hts'.get j hlt
      have hnj := nodesAll_get l j hlt
      have htk := nodesAll_take l j hlt
      by_cases hej : l[j].err = 0
      · have e2 : (l[j].err != 0) = false := by simp [hej]
        have hcount := err_count hej
        have HJ := Lib.hid hej
        have HC := Lib.hid hcount
        have HT := Lib.hid htk
        clear hej hcount htk
        go_wp2_with fail
        refine (size_any l[j] _ _ (by omega) (IsTy.boxed (w := wr) (IsTy.keep (fun b h => Nat.lt_of_lt_of_le (HSS.out b h) hBw.size) (fun _ _ => rfl) _ ht) ((Below.refl _ _).alloc (Nat.le_refl _) _))).mono ?_
        rintro e w1 ⟨rfl, hb1⟩
        rw [HC.out]
        go_wp2_with fail
        refine ⟨⟨j + 1, by omega, by go_num, ?_, errs_take hlt HE.out HJ.out, hbw.trans (((Below.refl _ _).alloc hbw.size _).trans (hb1.mono (by have := hbw.size; simp; omega)))⟩, by simp [intOf]; omega⟩
        rw [HT.out]; go_num
      · have e2 : (l[j].err != 0) = true := by simp [hej]
        have HS := Lib.hid (errs_stop hlt HE.out hej)
        have HJ := Lib.hid hej
        clear hej
        go_wp2_with fail
        refine (size_any l[j] _ _ (by omega) (IsTy.boxed (w := wr) (IsTy.keep (fun b h => Nat.lt_of_lt_of_le (HSS.out b h) hBw.size) (fun _ _ => rfl) _ ht) ((Below.refl _ _).alloc (Nat.le_refl _) _))).mono ?_
        rintro e w1 ⟨rfl, hb1⟩
        have hb01 : Below W0.heap.size W0 w1 := hbw.trans (((Below.refl _ _).alloc hbw.size _).trans (hb1.mono (by have := hbw.size; simp; omega)))
        obtain ⟨r0, r1, f0, f1⟩ := (k1.below hb01 k1.lt).facts2
        go_wp2_with fail
        obtain ⟨z0, z1, _, _⟩ := ((k1.below hb01 k1.lt).set2 (.int .i64 0) (.slice none 0 0)).facts2
        exact bodyPost_ret (v := .tuple #[.agg #[.int .i64 0, .slice none 0 0], .int .i64 l[j].err]) (by simp [results, Tryd.results186, go_sem, z0, z1]) rfl
          (function_err hb hz hb01 (by unfold funErr; rw [HS.out, if_neg HJ.out]) HJ.out)
    · have hjl : j = l.length := by omega
      subst hjl
      rw [List.take_length] at HE ⊢
      have hwr := hbw.size
      obtain ⟨q0, q1, _, _⟩ := (k0.below hbw (by omega)).facts2
      obtain ⟨r0, r1, f0, f1⟩ := (k1.below hbw (by omega)).facts2
      have HZ := Lib.hid hz
      clear hz
      go_wp2_with fail
      refine (size_any T _ wr (by omega) (((IsTy.keep (S' := (· < w.heap.size)) (fun b h => HSS.out b h) (fun _ _ => rfl) _ hT).boxed hb).boxed hbw)).mono ?_
      rintro e w1 ⟨rfl, hb1⟩
      have hb01 : Below W0.heap.size W0 w1 := hbw.trans (hb1.mono hwr)
      have c0 := (k0.below hb01 (by have := HZ.out; omega))
      have c1 := (k1.below hb01 (by have := HZ.out; omega))
      obtain ⟨q0, q1, d0, d1⟩ := c0.facts2
      obtain ⟨r0, r1, f0, f1⟩ := c1.facts2
      by_cases heT : T.err = 0
      · have e2 : (T.err != 0) = false := by simp [heT]
        have hcount := err_count heT
        have hfe : funErr l T = if l.length + nodesAll l + T.nodes ≤ 64 then 0 else 4 := by unfold funErr; rw [if_pos HE.out, if_pos heT]
        have HT := Lib.hid heT
        clear heT
        rw [hcount]
        clear hcount
        by_cases hgt : l.length + nodesAll l + T.nodes ≤ 64
        · rw [if_pos hgt] at hfe
          have HF := Lib.hid hfe
          clear hfe
          go_wp2_with fail
          go_loopw [13] (fun i wr => FunRel S w l T i wr) (fun i _ => (intOf i + 1).toNat)
          case atStart =>
            have hBw : Below w.heap.size w w1 := hb.trans (hb01.mono (by have := HZ.out; omega))
            refine ⟨l.length, A, c, Nat.le_refl _, rfl, ?_, ?_, c1, hBw⟩
            · rw [List.drop_length]; exact c0
            · rw [List.drop_length]
              exact IsTy.keep (fun b h => ⟨.inl h, Nat.lt_of_lt_of_le (HSS.out b h) hBw.size⟩) (fun p hp => hBw.cell (HSS.out _ hp)) _ hT
          case round =>
            obtain ⟨j, A1, c1', hj, rfl, hbx, hU, hrb, hbn⟩ := hrel
            cases j with
            | zero =>
              simp only [List.drop_zero] at hbx hU
              rw [show (((0 : Nat) : Int) - 1) = -1 from rfl]
              obtain ⟨s0, s1, g0, g1⟩ := hbx.facts2
              obtain ⟨v0, v1, h0, h1⟩ := hrb.facts2
              go_wp2_with fail
              obtain ⟨z0, z1, _, _⟩ := (hrb.set2 (.int .i64 (funTy l T).kind) (.slice A1 (funTy l T).args.length c1')).facts2
              exact bodyPost_ret (v := .tuple #[.agg #[.int .i64 (funTy l T).kind, .slice A1 (funTy l T).args.length c1'], .int .i64 0]) (by simp [results, Tryd.results186, go_sem, z0, z1]) rfl
                (fun_end HSS.out HF.out hbn hU)
            | succ i =>
              rw [show (((i + 1 : Nat) : Int) - 1) = (i : Int) from by omega]
              have hl0 : l ≠ [] := by intro e; subst e; simp at hj
              obtain ⟨a, rfl, ha, hts⟩ := HL.out hl0
              have hts' : AreTys S wr l a := AreTys.keep (fun _ h => h) (fun p hp => hbn.cell (HSS.out _ hp)) _ ha hts
              obtain ⟨A', c', p0, p1, ht⟩ := hts'.get i hj
              obtain ⟨s0, s1, g0, g1⟩ := hbx.facts2
              have a0 := fun o => (hbx.alloc o).facts2.1
              have a1 := fun o => (hbx.alloc o).facts2.2.1
              have a2 := fun o => (hbx.alloc o).facts2.2.2.1
              have a3 := fun o => (hbx.alloc o).facts2.2.2.2
              go_wp2_with fail
              go_region
              all_goals (go_wp2_with fail)
              all_goals exact ⟨fun_step hj hbx hU HSS.out ht hrb hbn, by simp [intOf]⟩
        · rw [if_neg hgt] at hfe
          have HF := Lib.hid hfe
          clear hfe
          have hgt' : 64 < l.length + nodesAll l + T.nodes := by omega
          go_wp2_with fail
          obtain ⟨z0, z1, _, _⟩ := (c1.set2 (.int .i64 0) (.slice none 0 0)).facts2
          exact bodyPost_ret (v := .tuple #[.agg #[.int .i64 0, .slice none 0 0], .int .i64 4]) (by simp [results, Tryd.results186, go_sem, z0, z1]) rfl
            (function_err hb HZ.out hb01 HF.out (by omega))
      · have e2 : (T.err != 0) = true := by simp [heT]
        have HF := Lib.hid (show funErr l T = T.err by unfold funErr; rw [if_pos HE.out, if_neg heT])
        have HT := Lib.hid heT
        clear heT
        go_wp2_with fail
        obtain ⟨z0, z1, _, _⟩ := (c1.set2 (.int .i64 0) (.slice none 0 0)).facts2
        exact bodyPost_ret (v := .tuple #[.agg #[.int .i64 0, .slice none 0 0], .int .i64 T.err]) (by simp [results, Tryd.results186, go_sem, z0, z1]) rfl
          (function_err hb HZ.out hb01 HF.out HT.out)

theorem function_any (l : List Ty) (T : Ty) (s v : Value) (w : World) (hsz : nodesAll l + T.nodes ≤ 400000) (hl : AreIn (· < w.heap.size) w l s) (hT : IsTy (· < w.heap.size) w T v) :
    Calls Tryd.prog 186 #[s, v] w (FunctionR l T w) := by
  refine (function_in (· < w.heap.size) l T s v w (fun _ h => h) hsz hl hT).mono ?_
  rintro e w' ⟨h1, h2⟩
  refine ⟨h1, ?_⟩
  split at h2
  · rename_i h0
    rw [if_pos h0]
    obtain ⟨v, h3, h4⟩ := h2
    exact ⟨v, h3, IsTy.keep (fun b hb => hb.2) (fun _ _ => rfl) _ h4⟩
  · rename_i h0
    rw [if_neg h0]
    exact h2
end Go.Proofs.YtdbkphgamkeboaaDoor
