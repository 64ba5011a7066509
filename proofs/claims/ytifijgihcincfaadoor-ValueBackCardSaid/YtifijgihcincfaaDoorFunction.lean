/- Function. -/
import Derived.Test.YtifijgihcincfaaDoorResultDefs
namespace Go.Proofs.YtifijgihcincfaaDoor
open Go.RowKit Go.Shelf

/-- The first error of some types. -/
def errs : List Ty → Int
  | [] => 0
  | t :: r => if t.err = 0 then errs r else t.err
def funErr (l : List Ty) (T : Ty) : Int := if errs l = 0 then if T.err = 0 then if l.length + nodesAll l + T.nodes ≤ 64 then 0 else 4 else T.err else errs l
def funTy (l : List Ty) (T : Ty) : Ty := l.foldr (fun a t => .mk 4 [a, t]) T

/-- The slice value v is the types ts. -/
def AreIn (S : Nat → Prop) (w : World) (ts : List Ty) (v : Value) : Prop := ∃ A c, v = .slice A ts.length c ∧ (ts ≠ [] → ∃ a, A = some a ∧ S a.block ∧ AreTys S w ts a)

theorem AreIn.keep {S S' : Nat → Prop} {w w' : World} {ts : List Ty} {v : Value} (h : AreIn S w ts v) (hS : ∀ b, S b → S' b) (hc : ∀ p : Addr, S p.block → w'.cell? p = w.cell? p) : AreIn S' w' ts v := by
  obtain ⟨A, c, hv, h⟩ := h
  refine ⟨A, c, hv, fun hne => ?_⟩
  obtain ⟨a, ha, hs, h⟩ := h hne
  exact ⟨a, ha, hS _ hs, AreTys.keep hS hc ts hs h⟩

theorem errs_take {l : List Ty} {j : Nat} (hj : j < l.length) (h : errs (l.take j) = 0) (he : l[j].err = 0) : errs (l.take (j + 1)) = 0 := by
  induction l generalizing j with
  | nil => simp at hj
  | cons t r ih =>
    cases j with
    | zero => simp at he; simp [errs, he]
    | succ j =>
      simp only [List.take_succ_cons, errs] at h ⊢
      split at h
      · rename_i h0
        rw [if_pos h0]
        exact ih (by simpa using hj) h (by simpa using he)
      · rename_i h0; exact absurd h h0
theorem errs_stop {l : List Ty} {j : Nat} (hj : j < l.length) (h : errs (l.take j) = 0) (he : l[j].err ≠ 0) : errs l = l[j].err := by
  induction l generalizing j with
  | nil => simp at hj
  | cons t r ih =>
    cases j with
    | zero => simp at he; simp [errs, he]
    | succ j =>
      simp only [List.take_succ_cons, errs] at h ⊢
      split at h
      · rename_i h0
        rw [if_pos h0]
        simpa using ih (by simpa using hj) h (by simpa using he)
      · rename_i h0; exact absurd h h0
theorem nodesAll_take (l : List Ty) (j : Nat) (hj : j < l.length) : nodesAll (l.take (j + 1)) = nodesAll (l.take j) + l[j].nodes := by
  rw [List.take_succ_eq_append_getElem hj, nodesAll_append]
  simp [nodesAll]
theorem nodesAll_take_le (l : List Ty) (j : Nat) : nodesAll (l.take j) ≤ nodesAll l := by
  have := nodesAll_append (l.take j) (l.drop j)
  rw [List.take_append_drop] at this
  omega
theorem err_count {T : Ty} (h : T.err = 0) : T.count = T.nodes := by
  have := err_zero.1 h
  simp [Ty.count, this]

/-- What Function returns, its parts in blocks of S or new. -/
def FunctionS (S : Nat → Prop) (l : List Ty) (T : Ty) (w : World) (e : Ending) (w' : World) : Prop :=
  Below w.heap.size w w' ∧ if funErr l T = 0 then ∃ v, e = .returned (.tuple #[v, .int .i64 0]) ∧ IsTy (fun b => (S b ∨ w.heap.size ≤ b) ∧ b < w'.heap.size) w' (funTy l T) v
    else e = .returned (.tuple #[.agg #[.int .i64 0, .slice none 0 0], .int .i64 (funErr l T)])
def FunctionR (l : List Ty) (T : Ty) (w : World) (e : Ending) (w' : World) : Prop :=
  Below w.heap.size w w' ∧ if funErr l T = 0 then ∃ v, e = .returned (.tuple #[v, .int .i64 0]) ∧ IsTy (· < w'.heap.size) w' (funTy l T) v
    else e = .returned (.tuple #[.agg #[.int .i64 0, .slice none 0 0], .int .i64 (funErr l T)])

theorem function_err {S : Nat → Prop} {w W0 w1 : World} {l : List Ty} {T : Ty} {e : Int} {x y : Value} (hb : Below w.heap.size w W0) (hz : W0.heap.size = w.heap.size + 2) (hb1 : Below W0.heap.size W0 w1) (he : funErr l T = e) (h0 : e ≠ 0) :
    FunctionS S l T w (.returned (.tuple #[.agg #[.int .i64 0, .slice none 0 0], .int .i64 e])) ((w1.setCell ⟨w.heap.size + 1, 0, none⟩ x).setCell ⟨w.heap.size + 1, 1, none⟩ y) := by
  have hB := hb.trans (hb1.mono (by omega))
  refine ⟨hB.grown (only_set2 w1 (w.heap.size + 1) _ _) hB.size (fun k e => by cases e; omega), ?_⟩
  rw [if_neg (by rw [he]; exact h0), he]

def FunRel (S : Nat → Prop) (w : World) (l : List Ty) (T : Ty) (i : Value) (wr : World) : Prop :=
  ∃ (j : Nat) (A : Option Addr) (c : Nat), j ≤ l.length ∧ i = .int .i64 ((j : Int) - 1) ∧ Blk wr w.heap.size 30 #[.int .i64 (funTy (l.drop j) T).kind, .slice A (funTy (l.drop j) T).args.length c] ∧
    IsTy (fun b => (S b ∨ w.heap.size + 2 ≤ b) ∧ b < wr.heap.size) wr (funTy (l.drop j) T) (.agg #[.int .i64 (funTy (l.drop j) T).kind, .slice A (funTy (l.drop j) T).args.length c]) ∧
    Blk wr (w.heap.size + 1) 30 #[.int .i64 0, .slice none 0 0] ∧ Below w.heap.size w wr

theorem funTy_drop (l : List Ty) (T : Ty) (i : Nat) (hi : i < l.length) : funTy (l.drop i) T = .mk 4 [l[i], funTy (l.drop (i + 1)) T] := by
  rw [List.drop_eq_getElem_cons hi]; rfl

theorem fun_step {S : Nat → Prop} {w wr : World} {l : List Ty} {T : Ty} {i : Nat} {A A' : Option Addr} {c c' : Nat} (hi : i < l.length)
    (hbx : Blk wr w.heap.size 30 #[.int .i64 (funTy (l.drop (i + 1)) T).kind, .slice A (funTy (l.drop (i + 1)) T).args.length c])
    (hU : IsTy (fun b => (S b ∨ w.heap.size + 2 ≤ b) ∧ b < wr.heap.size) wr (funTy (l.drop (i + 1)) T) (.agg #[.int .i64 (funTy (l.drop (i + 1)) T).kind, .slice A (funTy (l.drop (i + 1)) T).args.length c]))
    (hS : ∀ b, S b → b < w.heap.size) (ht : IsTy S wr l[i] (.agg #[.int .i64 l[i].kind, .slice A' l[i].args.length c']))
    (hrb : Blk wr (w.heap.size + 1) 30 #[.int .i64 0, .slice none 0 0]) (hbn : Below w.heap.size w wr) :
    FunRel S w l T (.int .i64 ((i : Int) - 1)) (((wr.alloc (.cells #[.int .i64 l[i].kind, .slice A' l[i].args.length c', .int .i64 (funTy (l.drop (i + 1)) T).kind, .slice A (funTy (l.drop (i + 1)) T).args.length c] 30)).setCell
      ⟨w.heap.size, 0, none⟩ (.int .i64 4)).setCell ⟨w.heap.size, 1, none⟩ (.slice (some ⟨wr.heap.size, 0, none⟩) 2 2)).drew := by
  have hs1 := hrb.lt
  have hw := hbn.size
  have b2 := (hbx.alloc (.cells #[.int .i64 l[i].kind, .slice A' l[i].args.length c', .int .i64 (funTy (l.drop (i + 1)) T).kind, .slice A (funTy (l.drop (i + 1)) T).args.length c] 30)).set2 (.int .i64 4) (.slice (some ⟨wr.heap.size, 0, none⟩) 2 2)
  have b3 := Blk.new wr 30 #[.int .i64 l[i].kind, .slice A' l[i].args.length c', .int .i64 (funTy (l.drop (i + 1)) T).kind, .slice A (funTy (l.drop (i + 1)) T).args.length c]
  have z := World.size_alloc wr (.cells #[.int .i64 l[i].kind, .slice A' l[i].args.length c', .int .i64 (funTy (l.drop (i + 1)) T).kind, .slice A (funTy (l.drop (i + 1)) T).args.length c] 30)
  have ga : wr.grownBy (wr.alloc (.cells #[.int .i64 l[i].kind, .slice A' l[i].args.length c', .int .i64 (funTy (l.drop (i + 1)) T).kind, .slice A (funTy (l.drop (i + 1)) T).args.length c] 30)) none := World.grownBy_alloc _ _ _
  have hg := only_drewN (only_set2 (wr.alloc (.cells #[.int .i64 l[i].kind, .slice A' l[i].args.length c', .int .i64 (funTy (l.drop (i + 1)) T).kind, .slice A (funTy (l.drop (i + 1)) T).args.length c] 30)) w.heap.size (.int .i64 4) (.slice (some ⟨wr.heap.size, 0, none⟩) 2 2)) 1
  have b2' := b2.drew
  change World.grownBy _ (World.drew _) _ at hg
  generalize (((wr.alloc (.cells #[.int .i64 l[i].kind, .slice A' l[i].args.length c', .int .i64 (funTy (l.drop (i + 1)) T).kind, .slice A (funTy (l.drop (i + 1)) T).args.length c] 30)).setCell
      ⟨w.heap.size, 0, none⟩ (.int .i64 4)).setCell ⟨w.heap.size, 1, none⟩ (.slice (some ⟨wr.heap.size, 0, none⟩) 2 2)).drew = W' at b2' hg ⊢
  have b3' := b3.grown hg (by simp; omega)
  have ra := hrb.grown ga (by simp)
  generalize wr.alloc (.cells #[.int .i64 l[i].kind, .slice A' l[i].args.length c', .int .i64 (funTy (l.drop (i + 1)) T).kind, .slice A (funTy (l.drop (i + 1)) T).args.length c] 30) = W1 at z ga hg ra
  have hz := hg.size
  have hkeep : ∀ p : Addr, p.block ≠ w.heap.size → p.block < wr.heap.size → W'.cell? p = wr.cell? p := fun p h1 h2 =>
    (World.cell?_of_block (hg.block p.block (by omega) (by simp; omega))).trans (World.cell?_of_block (ga.block p.block h2 (by simp)))
  refine ⟨i, some ⟨wr.heap.size, 0, none⟩, 2, by omega, rfl, ?_, ?_, ra.grown hg (by simp), (hbn.grown ga (by omega) (by simp)).grown hg (by omega) (fun k e => by cases e; exact Nat.le_refl _)⟩
  · rw [funTy_drop l T i hi]
    exact b2'
  · rw [funTy_drop l T i hi]
    unfold IsTy
    have e0 := b3'.cell 0
    have e1 := b3'.cell 1
    have e2 := b3'.cell 2
    have e3 := b3'.cell 3
    simp at e0 e1 e2 e3
    refine ⟨_, 2, rfl, fun _ => ⟨_, rfl, ⟨.inr (by show w.heap.size + 2 ≤ wr.heap.size; omega), by show wr.heap.size < W'.heap.size; omega⟩, ?_⟩⟩
    unfold AreTys
    refine ⟨⟨_, _, e0, by simpa [Addr.add] using e1, IsTy.keep (fun b hb => ⟨.inl hb, by have := hS b hb; omega⟩) (fun p hp => hkeep p (by have := hS _ hp; omega) (by have := hS _ hp; omega)) _ ht⟩, ?_⟩
    unfold AreTys
    refine ⟨⟨_, _, by simpa [Addr.add] using e2, by simpa [Addr.add] using e3, IsTy.keep (fun b hb => ⟨hb.1, by omega⟩) (fun p hp => hkeep p (by rcases hp.1 with h | h <;> first | omega | (have := hS _ h; omega)) hp.2) _ hU⟩, ?_⟩
    unfold AreTys
    trivial

theorem fun_end {S : Nat → Prop} {w wr : World} {l : List Ty} {T : Ty} {A : Option Addr} {c : Nat} (hS : ∀ b, S b → b < w.heap.size) (he : funErr l T = 0) (hbn : Below w.heap.size w wr)
    (hU : IsTy (fun b => (S b ∨ w.heap.size + 2 ≤ b) ∧ b < wr.heap.size) wr (funTy l T) (.agg #[.int .i64 (funTy l T).kind, .slice A (funTy l T).args.length c])) :
    FunctionS S l T w (.returned (.tuple #[.agg #[.int .i64 (funTy l T).kind, .slice A (funTy l T).args.length c], .int .i64 0]))
      ((wr.setCell ⟨w.heap.size + 1, 0, none⟩ (.int .i64 (funTy l T).kind)).setCell ⟨w.heap.size + 1, 1, none⟩ (.slice A (funTy l T).args.length c)) := by
  have hg := only_set2 wr (w.heap.size + 1) (.int .i64 (funTy l T).kind) (.slice A (funTy l T).args.length c)
  refine ⟨hbn.grown hg hbn.size (fun k e => by cases e; omega), ?_⟩
  rw [if_pos he]
  refine ⟨_, rfl, IsTy.keep (fun b hb => ⟨hb.1.imp id (fun h => by omega), Nat.lt_of_lt_of_le hb.2 hg.size⟩) (fun p hp => World.cell?_of_block (hg.block p.block hp.2 (fun e => ?_))) _ hU⟩
  have e' : p.block = w.heap.size + 1 := by simpa using e
  rcases hp.1 with h | h
  · have := hS _ h; omega
  · omega

end Go.Proofs.YtifijgihcincfaaDoor
