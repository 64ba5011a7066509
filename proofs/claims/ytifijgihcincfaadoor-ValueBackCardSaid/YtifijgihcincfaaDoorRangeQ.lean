/- A range over a function whose iterator writes no memory: the caller's cells may lie anywhere. -/
import Derived.Test.YtifijgihcincfaaDoorRange
import Derived.Test.YtifijgihcincfaaDoorSeq
namespace Go.Proofs.YtifijgihcincfaaDoor
open Go.RowKit Go.Shelf

/-- The two blocks of a loop that began where the heap had B blocks. -/
def Loop2 (B k : Nat) : Prop := k = B ∨ k = B + 1
def Not2 (B k : Nat) : Prop := ¬ Loop2 B k

/-- What an iterator (function gf with lb captured) that writes nothing promises at a wide fence: the xs come, one after the other, until a round says no; what the caller keeps says Kx. -/
def IteratesQ (P : Program) (Kx : World → Prop) (n gf : Nat) (lb : Array Value) {α : Type} (enc : α → Array Value → World → Prop) (xs : List α) (w : World) : Prop :=
  ∀ (l : Nat) (J : List α → World → Prop) (Jx : World → Prop) (W : World), Below w.heap.size w W → (∀ pre W1, J pre W1 → Kx W1) →
    (∀ pre x args W1, J pre W1 → pre ++ [x] <+: xs → enc x args W1 → YieldAt Fence.wide (n - 1) P l args W1 fun e W' =>
      (e = .returned (.bool true) ∧ J (pre ++ [x]) W') ∨ (e = .returned (.bool false) ∧ Jx W')) →
    J [] W → CallsIn Fence.wide n P gf (#[.func (.yield l) #[] #[]] ++ lb) W fun e W' => (∃ v, e = .returned v) ∧ (J xs W' ∨ Jx W')

/-- How a round may be left. -/
def roundEndsQ {α : Type} (I : List α → World → Prop) (Ix : Code → World → Prop) (B : Nat) (pre : List α) (W : World) : Exit → Act → World → Prop
  | .normal, _, W' => Turn (Not2 B) W W' ∧ I pre W'
  | .ret, _, W' => Turn (Not2 B) W W' ∧ Ix .ret W'
  | .exit id, _, W' => Turn (Not2 B) W W' ∧ Ix (.exit id) W'
  | .goto t, _, W' => Turn (Not2 B) W W' ∧ Ix (.goto t) W'
  | .panic _, _, _ => False
  | .outgrown, _, _ => False

theorem range_wpQ {P : Program} {n : Nat} (h1 : 1 ≤ n) {g : Operand} {ps : Array Tmp} {assign body : Code} {Q : Exit → Act → World → Prop} {a : Act} {w : World} {gf : Nat} {lb : Array Value}
    (hg : a.eval g = .func (.func gf) #[] lb) (eg : ∀ args w, (callFunc gf args).run P w = .ok (.enter gf args) w)
    {α : Type} {enc : α → Array Value → World → Prop} {xs : List α} (henc : ∀ x args W, enc x args W → args.size = ps.size)
    {Kx : World → Prop} (hseq : IteratesQ P Kx (n - 1) gf lb enc xs w)
    (I : List α → World → Prop) (Ix : Code → World → Prop) (hI : ∀ pre W W', I pre W → Turn (Loop2 w.heap.size) W W' → I pre W') (hIx : ∀ c W W', Ix c W → Turn (Loop2 w.heap.size) W W' → Ix c W')
    (h0 : I [] w) (hIK : ∀ pre W, I pre W → Kx W)
    (hround : ∀ pre x args W, I pre W → pre ++ [x] <+: xs → w.heap.size + 2 ≤ W.heap.size → enc x args W →
      assign.wpIn (Fence.wide.inRound (w.heap.size + 1)) (n - 1 - 1) P (Exit.then (fun a₁ W₁ => Below W.heap.size W W₁ ∧
          ∀ W₂, W₁.grownBy W₂ (some (w.heap.size + 1)) → I pre W₂ → body.wpIn (Fence.wide.inRound (w.heap.size + 1)) (n - 1 - 1) P (roundEndsQ I Ix w.heap.size (pre ++ [x]) W₂) a₁ W₂) (fun _ _ _ => False))
        { tmps := (ps.zip args).foldl (fun t (p, v) => t.setIfInBounds p v) a.tmps, defers := [] } W)
    (hdone : ∀ W, I xs W → w.heap.size < W.heap.size → W.heap[w.heap.size]? = some (.deferred (some [])) → Q .normal { a with defers := { target := .collected w.heap.size, args := #[] } :: a.defers } W)
    (hstop : ∀ c W, Ix c W → w.heap.size < W.heap.size → W.heap[w.heap.size]? = some (.deferred (some [])) → c.wpIn Fence.wide n P Q { a with defers := { target := .collected w.heap.size, args := #[] } :: a.defers } W) :
    (Code.rangeFunc g ps assign body).wpIn Fence.wide n P Q a w := by
  refine wpIn_rangeFunc fun fn hfn => ?_
  let rec_ : LoopState → Option Code → Loop := fun st pe => { state := st, pending := pe, fn, tmps := a.tmps, params := ps, assign, body, defers := w.heap.size }
  let W1 : World := (w.alloc (.deferred (some []))).alloc (.loop (rec_ .ready none))
  have hz1 : W1.heap.size = w.heap.size + 2 := by simp [W1]
  have hL1 : W1.heap[w.heap.size + 1]? = some (.loop (rec_ .ready none)) := by
    have := World.alloc_heap_new (w.alloc (.deferred (some []))) (.loop (rec_ .ready none))
    rwa [World.size_alloc] at this
  have hK1 : W1.heap[w.heap.size]? = some (.deferred (some [])) :=
    (Below.heap_alloc _ _ _ (by simp)).trans (World.alloc_heap_new w _)
  have hb1 : Below w.heap.size w W1 := ((Below.refl _ w).alloc (Nat.le_refl _) _).alloc (by simp) _
  refine ⟨w.heap.size + 1, [{ target := .collected w.heap.size, args := #[] }], W1, { target := .fn (.func gf) lb, args := #[.func (.yield (w.heap.size + 1)) #[] #[]] }, W1, gf,
    #[.func (.yield (w.heap.size + 1)) #[] #[]] ++ lb, W1, run_enterLoop_outer _ _ _ _ _, ?_, fun _ _ => trivial, ?_, fun _ => h1, ?_⟩
  · simp only [resolve, hg]
    simp [go_sem]
  · simp [invoke, go_sem, eg]
  -- one block of the loop's own may turn
  have own : ∀ (W : World) (o : Obj), Turn (Loop2 w.heap.size) W (W.putObj (w.heap.size + 1) o) :=
    fun W o => Turn.grown (grownBy_putObj' W _ o) (fun k e => by cases e; exact .inr rfl)
  refine (hseq (w.heap.size + 1)
    (fun pre W => I pre W ∧ W.heap[w.heap.size + 1]? = some (.loop (rec_ .ready none)) ∧ W.heap[w.heap.size]? = some (.deferred (some [])))
    (fun W => ∃ c, Ix c W ∧ W.heap[w.heap.size + 1]? = some (.loop (rec_ .done (some c))) ∧ W.heap[w.heap.size]? = some (.deferred (some [])))
    W1 hb1 (fun pre W h => hIK pre W h.1) ?_ ⟨hI _ _ _ h0 (Turn.call hb1), hL1, hK1⟩).mono ?_
  · rintro pre x args W ⟨hi, hl, hk⟩ hpre hx
    have hlt : w.heap.size + 1 < W.heap.size := (Array.getElem?_eq_some_iff.1 hl).1
    have hy := run_yield (P := P) (args := args) hl (henc x args W hx)
    refine ⟨fn, _, assign, body, hy, roundIn_of_wpIn hfn (wpIn_mono (hround pre x args W hi hpre (by omega) hx) ?_)⟩
    intro e a₁ W₁ h
    cases e with
    | normal =>
      obtain ⟨hb, hbody⟩ := h
      have hl1 : W₁.heap[w.heap.size + 1]? = some (.loop (rec_ .ready none)) := (hb.block _ hlt).trans hl
      have hlt1 := (Array.getElem?_eq_some_iff.1 hl1).1
      have hkd1 : W₁.heap[w.heap.size]? = some (.deferred (some [])) := (hb.block _ (by omega)).trans hk
      refine ⟨_, run_beginRound hl1 rfl, ?_⟩
      have hbb := own W₁ (.loop { rec_ .ready none with state := .busy })
      have hi2 := hI pre _ _ (hI pre _ _ hi (Turn.call hb)) hbb
      have hl2 : (W₁.putObj (w.heap.size + 1) (.loop { rec_ .ready none with state := .busy })).heap[w.heap.size + 1]? = some (.loop { rec_ .ready none with state := .busy }) := World.putObj_heap_same hlt1
      have hk2 : (W₁.putObj (w.heap.size + 1) (.loop { rec_ .ready none with state := .busy })).heap[w.heap.size]? = some (.deferred (some [])) := (World.putObj_heap_other (by omega)).trans hkd1
      have hz2 : (W₁.putObj (w.heap.size + 1) (.loop { rec_ .ready none with state := .busy })).heap.size = W₁.heap.size := by simp
      refine wpIn_mono (hbody _ (grownBy_putObj' W₁ _ _) hi2) ?_
      -- behind the body
      have fin : ∀ (jump : Option Code) (W3 : World), Turn (Not2 w.heap.size) (W₁.putObj (w.heap.size + 1) (.loop { rec_ .ready none with state := .busy })) W3 →
          (Instr.endRound (w.heap.size + 1) jump).run P W3 = .ok (.bool jump.isNone) (W3.putObj (w.heap.size + 1) (.loop (rec_ (if jump.isNone then .ready else .done) jump))) ∧
          (W3.putObj (w.heap.size + 1) (.loop (rec_ (if jump.isNone then .ready else .done) jump))).heap[w.heap.size + 1]? = some (.loop (rec_ (if jump.isNone then .ready else .done) jump)) ∧
          (W3.putObj (w.heap.size + 1) (.loop (rec_ (if jump.isNone then .ready else .done) jump))).heap[w.heap.size]? = some (.deferred (some [])) ∧
          Turn (Loop2 w.heap.size) W3 (W3.putObj (w.heap.size + 1) (.loop (rec_ (if jump.isNone then .ready else .done) jump))) := by
        intro jump W3 hk3
        have hl3 : W3.heap[w.heap.size + 1]? = some (.loop { rec_ .ready none with state := .busy }) := (hk3.block _ (by omega) (fun h => h (.inr rfl))).trans hl2
        have hd3 : W3.heap[w.heap.size]? = some (.deferred (some [])) := (hk3.block _ (by omega) (fun h => h (.inl rfl))).trans hk2
        have hlt3 := (Array.getElem?_eq_some_iff.1 hl3).1
        exact ⟨run_endRound jump hl3, World.putObj_heap_same hlt3, (World.putObj_heap_other (by omega)).trans hd3, own W3 _⟩
      intro e a₃ W3 hp
      cases e with
      | normal =>
        obtain ⟨hk3, hi3⟩ := hp
        obtain ⟨hr, hl4, hk4, hb4⟩ := fin none W3 hk3
        exact ⟨_, _, hr, .inl ⟨rfl, hI _ _ _ hi3 hb4, hl4, hk4⟩⟩
      | ret =>
        obtain ⟨hk3, hi3⟩ := hp
        obtain ⟨hr, hl4, hk4, hb4⟩ := fin (some .ret) W3 hk3
        exact ⟨_, _, hr, .inr ⟨rfl, .ret, hIx _ _ _ hi3 hb4, hl4, hk4⟩⟩
      | exit id =>
        obtain ⟨hk3, hi3⟩ := hp
        obtain ⟨hr, hl4, hk4, hb4⟩ := fin (some (.exit id)) W3 hk3
        exact ⟨_, _, hr, .inr ⟨rfl, .exit id, hIx _ _ _ hi3 hb4, hl4, hk4⟩⟩
      | goto t =>
        obtain ⟨hk3, hi3⟩ := hp
        obtain ⟨hr, hl4, hk4, hb4⟩ := fin (some (.goto t)) W3 hk3
        exact ⟨_, _, hr, .inr ⟨rfl, .goto t, hIx _ _ _ hi3 hb4, hl4, hk4⟩⟩
      | panic ch => exact hp.elim
      | outgrown => exact hp.elim
    | _ => exact h.elim
  · rintro e W2 ⟨⟨v, rfl⟩, (⟨hi, hl, hk⟩ | ⟨c, hi, hl, hk⟩)⟩
    · have hlt := (Array.getElem?_eq_some_iff.1 hl).1
      exact ⟨none, _, run_endLoop hl (by simp [rec_]), hdone _ (hI _ _ _ hi (own W2 _)) (by simp; omega) ((World.putObj_heap_other (by omega)).trans hk)⟩
    · have hlt := (Array.getElem?_eq_some_iff.1 hl).1
      exact ⟨some c, _, run_endLoop hl (by simp [rec_]), hstop c _ (hIx _ _ _ hi (own W2 _)) (by simp; omega) ((World.putObj_heap_other (by omega)).trans hk)⟩
end Go.Proofs.YtifijgihcincfaaDoor
