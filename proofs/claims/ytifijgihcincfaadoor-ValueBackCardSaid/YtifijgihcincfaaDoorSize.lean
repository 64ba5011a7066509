/- Check and Size, by the iterator. -/
import Derived.Test.YtifijgihcincfaaDoorNodes
import Derived.Test.YtifijgihcincfaaDoorMarks
namespace Go.Proofs.YtifijgihcincfaaDoor
open Go.RowKit Go.Shelf

attribute [local go_sem] Oper.semAt_some

/-- One node is as it must be. -/
def Ty.formed (t : Ty) : Bool := if t.kind = 1 ∨ t.kind = 2 ∨ t.kind = 5 then t.args.length == 0 else if t.kind = 3 ∨ t.kind = 4 then t.args.length == 2 else false

theorem formed_eq (k : Int) (l : List Ty) : (l.isEmpty && (k == 1 || k == 2 || k == 5) || l.length == 2 && (k == 3 || k == 4)) = (Ty.mk k l).formed := by
  by_cases h : k = 1 ∨ k = 2 ∨ k = 5
  · rcases h with rfl | rfl | rfl <;> cases l <;> simp [Ty.formed, Ty.kind, Ty.args]
  · by_cases h' : k = 3 ∨ k = 4
    · rcases h' with rfl | rfl <;> simp [Ty.formed, Ty.kind, Ty.args]
    · have a1 : k ≠ 1 := fun e => h (by omega)
      have a2 : k ≠ 2 := fun e => h (by omega)
      have a3 : k ≠ 5 := fun e => h (by omega)
      have a4 : k ≠ 3 := fun e => h' (by omega)
      have a5 : k ≠ 4 := fun e => h' (by omega)
      simp [Ty.formed, Ty.kind, a1, a2, a3, a4, a5]

mutual
theorem ok_order : ∀ t : Ty, t.ok = t.order.all Ty.formed
  | .mk k l => by rw [Ty.ok, Ty.order, List.all_cons, okAll_order l, formed_eq]
theorem okAll_order : ∀ l : List Ty, okAll l = (orderAll l).all Ty.formed
  | [] => rfl
  | t :: r => by simp only [okAll, orderAll, List.all_append, ok_order t, okAll_order r, Bool.and_comm]
end

theorem ret_bool {a b : Bool} (h : a = b) : Ending.returned (.bool a) = .returned (.bool b) := by rw [h]
theorem len_eq (n m : Nat) : ((n : Int) == (m : Int)) = (n == m) := by
  rw [Bool.eq_iff_iff]; simp; omega

set_option maxHeartbeats 1000000 in
theorem formed_any (S : Nat → Prop) (T : Ty) (v : Value) (w : World) (hT : IsTy S w T v) (hsz : T.args.length ≤ 1000000) :
    Calls Tryd.prog 130 #[v] w fun e w' => e = .returned (.bool T.formed) ∧ Below w.heap.size w w' := by
  obtain ⟨A, c, rfl⟩ := hT.form
  obtain ⟨k, l⟩ := T
  simp only [Ty.kind, Ty.args] at *
  by_cases h : k = 1 ∨ k = 2 ∨ k = 5
  · rcases h with rfl | rfl | rfl
    all_goals
      go_enter Tryd.func130, Tryd.ntmps130
      go_wp2_with fail
      go_ret
      exact ⟨ret_bool (by simpa [Ty.formed, Ty.kind, Ty.args] using len_eq l.length 0), (Below.refl _ _).alloc (Nat.le_refl _) _⟩
  · by_cases h' : k = 3 ∨ k = 4
    · rcases h' with rfl | rfl
      all_goals
        go_enter Tryd.func130, Tryd.ntmps130
        go_wp2_with fail
        go_ret
        exact ⟨ret_bool (by simpa [Ty.formed, Ty.kind, Ty.args] using len_eq l.length 2), (Below.refl _ _).alloc (Nat.le_refl _) _⟩
    · have e1 : (k == 1) = false := by simp; omega
      have e2 : (k == 2) = false := by simp; omega
      have e3 : (k == 5) = false := by simp; omega
      have e4 : (k == 3) = false := by simp; omega
      have e5 : (k == 4) = false := by simp; omega
      have hf : (Ty.mk k l).formed = false := by simp [Ty.formed, Ty.kind, h, h']
      have HF := Lib.hid hf
      clear hf
      go_enter Tryd.func130, Tryd.ntmps130
      go_wp2_with fail
      go_ret
      exact ⟨ret_bool HF.out.symm, (Below.refl _ _).alloc (Nat.le_refl _) _⟩

theorem makeFunc_run (fn : Fn) (first cap : Array Value) (w : World) : (Instr.makeFunc fn first cap).run Tryd.prog w = .ok (.func fn first cap) w := rfl

theorem nodes_any (x y : Value) (w : World) : Calls Tryd.prog 129 #[.agg #[x, y]] w fun e w' =>
    e = .returned (.func (.func 138) #[] #[.pointer (some ⟨w.heap.size, 0, none⟩)]) ∧ w.alloc (.cells #[x, y] 30) = w' := by
  have hmf := makeFunc_run
  go_enter Tryd.func129, Tryd.ntmps129
  go_wp2_with fail
  go_ret
  exact ⟨rfl, rfl⟩

theorem formed_is {S : Nat → Prop} {v : Value} {w : World} (T : Ty) (b : Bool) (hb : T.formed = b) (hT : IsTy S w T v) (hsz : T.args.length ≤ 1000000) :
    Calls Tryd.prog 130 #[v] w fun e w' => e = .returned (.bool b) ∧ Below w.heap.size w w' := by
  subst hb
  exact formed_any S T v w hT hsz

theorem Blk.facts1 {w : World} {g : Nat} {t : TypeId} {a : Value} (h : Blk w g t #[a]) : w.cell? ⟨g, 0, none⟩ = some a ∧ w.frozen? ⟨g, 0, none⟩ = false :=
  ⟨by simpa using h.cell 0, h.frozen 0⟩

mutual
theorem mem_order : ∀ (t x : Ty), x ∈ t.order → x.nodes ≤ t.nodes
  | .mk k l, x, h => by
    simp only [Ty.order, List.mem_cons] at h
    rcases h with rfl | h
    · exact Nat.le_refl _
    · have := mem_orderAll l x h
      simp only [Ty.nodes]
      omega
theorem mem_orderAll : ∀ (l : List Ty) (x : Ty), x ∈ orderAll l → x.nodes ≤ nodesAll l
  | [], x, h => by simp [orderAll] at h
  | t :: r, x, h => by
    simp only [orderAll, List.mem_append] at h
    simp only [nodesAll]
    rcases h with h | h
    · have := mem_orderAll r x h; omega
    · have := mem_order t x h; omega
end
/-- What comes is not more than the tree holds. -/
theorem order_bounds {T x : Ty} {pre : List Ty} (hsz : T.nodes ≤ 400000) (h : pre ++ [x] <+: T.order) : pre.length + 1 ≤ 400000 ∧ x.args.length ≤ 1000000 := by
  have h1 := h.length_le
  rw [order_length] at h1
  simp at h1
  have h2 : x ∈ T.order := h.subset (by simp)
  have h3 := mem_order T x h2
  have h4 := nodesAll_len x.args
  have h5 : x.nodes = 1 + nodesAll x.args := by cases x; simp [Ty.nodes, Ty.args]
  omega
theorem order_wrong {T x : Ty} {pre : List Ty} (h : pre ++ [x] <+: T.order) (hx : ¬ x.formed = true) : T.ok = false := by
  have h2 : x ∈ T.order := h.subset (by simp)
  rw [ok_order, Bool.eq_false_iff]
  intro h3
  exact hx (List.all_eq_true.1 h3 x h2)

theorem Blk.set1 {w : World} {g : Nat} {t : TypeId} {a : Value} (h : Blk w g t #[a]) (u : Value) : Blk (w.setCell ⟨g, 0, none⟩ u) g t #[u] := by simpa using h.set_ 0 u

/-- The error of Check, and the number that Size returns. -/
def Ty.err (T : Ty) : Int := if T.ok then if T.nodes ≤ 64 then 0 else 4 else 2
def Ty.count (T : Ty) : Int := if T.ok ∧ T.nodes ≤ 64 then T.nodes else 0

def SizeR (T : Ty) (w : World) (e : Ending) (w' : World) : Prop := e = .returned (.tuple #[.int .i64 T.count, .int .i64 T.err]) ∧ Below w.heap.size w w'

def sizeWorld (w : World) (x y : Value) : World :=
  ((((w.alloc (Obj.cells #[x, y] 30)).alloc (Obj.cells #[Value.int IntKind.i64 0] 3)).alloc (Obj.cells #[Value.int IntKind.i64 0] 36)).alloc (Obj.cells #[Value.int IntKind.i64 0] 3)).alloc (Obj.cells #[x, y] 30)

theorem sizeWorld_facts (w : World) (x y : Value) : (sizeWorld w x y).heap.size = w.heap.size + 5 ∧ Below w.heap.size w (sizeWorld w x y) ∧ Blk (sizeWorld w x y) (w.heap.size + 1) 3 #[.int .i64 0] ∧
    Blk (sizeWorld w x y) (w.heap.size + 1 + 1) 36 #[.int .i64 0] ∧ Blk (sizeWorld w x y) (w.heap.size + 1 + 1 + 1) 3 #[.int .i64 0] ∧ Blk (sizeWorld w x y) (w.heap.size + 1 + 1 + 1 + 1) 30 #[x, y] := by
  have a1 := World.size_alloc w (Obj.cells #[x, y] 30)
  generalize h1 : w.alloc (Obj.cells #[x, y] 30) = w1 at a1
  have a2 := World.size_alloc w1 (Obj.cells #[Value.int IntKind.i64 0] 3)
  have b1 := Blk.new w1 3 #[.int .i64 0]
  generalize h2 : w1.alloc (Obj.cells #[Value.int IntKind.i64 0] 3) = w2 at a2 b1
  have a3 := World.size_alloc w2 (Obj.cells #[Value.int IntKind.i64 0] 36)
  have b2 := Blk.new w2 36 #[.int .i64 0]
  generalize h3 : w2.alloc (Obj.cells #[Value.int IntKind.i64 0] 36) = w3 at a3 b2
  have a4 := World.size_alloc w3 (Obj.cells #[Value.int IntKind.i64 0] 3)
  have b3 := Blk.new w3 3 #[.int .i64 0]
  generalize h4 : w3.alloc (Obj.cells #[Value.int IntKind.i64 0] 3) = w4 at a4 b3
  have a5 := World.size_alloc w4 (Obj.cells #[x, y] 30)
  have b4 := Blk.new w4 30 #[x, y]
  have e : sizeWorld w x y = w4.alloc (Obj.cells #[x, y] 30) := by rw [← h4, ← h3, ← h2, ← h1]; rfl
  rw [e]
  have z1 : w1.heap.size = w.heap.size + 1 := a1
  have z2 : w2.heap.size = w.heap.size + 1 + 1 := by omega
  have z3 : w3.heap.size = w.heap.size + 1 + 1 + 1 := by omega
  have z4 : w4.heap.size = w.heap.size + 1 + 1 + 1 + 1 := by omega
  rw [z1] at b1
  rw [z2] at b2
  rw [z3] at b3
  rw [z4] at b4
  refine ⟨by omega, ?_, ?_, ?_, ?_, b4⟩
  · have k1 : Below w.heap.size w w1 := by rw [← h1]; exact (Below.refl _ _).alloc (Nat.le_refl _) _
    have k2 : Below w.heap.size w w2 := by rw [← h2]; exact k1.alloc (by omega) _
    have k3 : Below w.heap.size w w3 := by rw [← h3]; exact k2.alloc (by omega) _
    have k4 : Below w.heap.size w w4 := by rw [← h4]; exact k3.alloc (by omega) _
    exact k4.alloc (by omega) _
  · have k3 : Blk w3 (w.heap.size + 1) 3 #[.int .i64 0] := by rw [← h3]; exact b1.alloc _
    have k4 : Blk w4 (w.heap.size + 1) 3 #[.int .i64 0] := by rw [← h4]; exact k3.alloc _
    exact k4.alloc _
  · have k4 : Blk w4 (w.heap.size + 1 + 1) 36 #[.int .i64 0] := by rw [← h4]; exact b2.alloc _
    exact k4.alloc _
  · exact b3.alloc _

/-- Between two rounds. -/
def SizeI (w : World) (pre : List Ty) (W : World) : Prop :=
  Below w.heap.size w W ∧ Blk W (w.heap.size + 1) 3 #[.int .i64 0] ∧ Blk W (w.heap.size + 1 + 1) 36 #[.int .i64 0] ∧ Blk W (w.heap.size + 1 + 1 + 1) 3 #[.int .i64 (pre.length : Int)] ∧ pre.all Ty.formed = true

/-- A wrong node has come. -/
def SizeIx (T : Ty) (w : World) (c : Code) (W : World) : Prop :=
  c = .ret ∧ Below w.heap.size w W ∧ Blk W (w.heap.size + 1) 3 #[.int .i64 0] ∧ Blk W (w.heap.size + 1 + 1) 36 #[.int .i64 2] ∧ T.ok = false

theorem sizeI_low {w : World} {B : Nat} (hB : w.heap.size + 5 ≤ B) (pre : List Ty) : Low B (SizeI w pre) := by
  rintro W W' ⟨h0, h1, h2, h3, h4⟩ hb
  exact ⟨h0.trans (hb.mono (by omega)), h1.below hb (by omega), h2.below hb (by omega), h3.below hb (by omega), h4⟩
theorem sizeIx_low {T : Ty} {w : World} {B : Nat} (hB : w.heap.size + 5 ≤ B) (c : Code) : Low B (SizeIx T w c) := by
  rintro W W' ⟨hc, h0, h1, h2, h3⟩ hb
  exact ⟨hc, h0.trans (hb.mono (by omega)), h1.below hb (by omega), h2.below hb (by omega), h3⟩

set_option maxRecDepth 100000 in
set_option maxHeartbeats 2000000 in
theorem size_any (T : Ty) (v : Value) (w : World) (hsz : T.nodes ≤ 400000) (hT : IsTy (· < w.heap.size) w T v) :
    Calls Tryd.prog 120 #[v] w (SizeR T w) := by
  obtain ⟨A, c, rfl⟩ := hT.form
  refine (callsIn_wide (n := 3)).1 (callsIn_of_wp_marks Tryd.func120 rfl trivial ?_ rfl)
  simp only [Tryd.ntmps120, List.size_toArray, List.length_cons, List.length_nil, Nat.reduceAdd, Nat.reduceSub, Array.replicate_succ, Array.replicate_zero, List.push_toArray, List.append_toArray, List.nil_append, List.cons_append]
  gi_wp2_with (refine ⟨trivial, ?_⟩; gi_at_call 129; refine (callsIn_wide.2 (nodes_any _ _ _)).mono ?_; rintro e w' ⟨rfl, rfl⟩)
  obtain ⟨hz, hb, k1, k2, k3, k4⟩ := sizeWorld_facts w (.int .i64 T.kind) (.slice A T.args.length c)
  rw [show ((((w.alloc (Obj.cells #[Value.int IntKind.i64 T.kind, Value.slice A T.args.length c] 30)).alloc (Obj.cells #[Value.int IntKind.i64 0] 3)).alloc (Obj.cells #[Value.int IntKind.i64 0] 36)).alloc (Obj.cells #[Value.int IntKind.i64 0] 3)).alloc (Obj.cells #[Value.int IntKind.i64 T.kind, Value.slice A T.args.length c] 30) = sizeWorld w (.int .i64 T.kind) (.slice A T.args.length c) from rfl]
  generalize sizeWorld w (.int .i64 T.kind) (.slice A T.args.length c) = W0 at hz hb k1 k2 k3 k4 ⊢
  have hT0 : IsTy (· < w.heap.size) W0 T (.agg #[.int .i64 T.kind, .slice A T.args.length c]) := IsTy.keep (fun b h => h) (fun p hp => hb.cell hp) _ hT
  refine range_wp (by omega) (gf := 138) (lb := #[.pointer (some ⟨w.heap.size + 1 + 1 + 1 + 1, 0, none⟩)]) rfl (enters_of Tryd.func138 (by kernel_rfl) rfl) (n₀ := w.heap.size) (by omega)
    (enc := EncTy w.heap.size) (xs := T.order) (fun x args W h => by obtain ⟨v, rfl, _⟩ := h; rfl)
    (nodes_iter _ _ _ T _ W0 (by omega) (by omega) hT0 hsz (by omega) (fun x y e => by simp at e; obtain ⟨rfl, rfl⟩ := e; exact k4))
    (SizeI w) (SizeIx T w) (fun pre => sizeI_low (by omega) pre) (fun c => sizeIx_low (by omega) c) ⟨hb, k1, k2, by simpa using k3, rfl⟩ ?round ?done ?stop
  case round =>
    rintro pre x args W ⟨j0, j1, j2, j3, j4⟩ hpre hW ⟨v, rfl, hx⟩
    obtain ⟨A1, c1, rfl⟩ := hx.form
    gi_wp2
    refine ⟨(Below.refl _ _).alloc (Nat.le_refl _) _, ?_⟩
    rintro W₂ hg ⟨i0, i1, i2, i3, i4⟩
    have hbx : Blk W₂ W.heap.size 30 #[.int .i64 x.kind, .slice A1 x.args.length c1] := (Blk.new W _ _).grown hg (by simp; omega)
    obtain ⟨b0, b1, _, _⟩ := hbx.facts2
    have hw := i0.size
    have hx2 : IsTy (· < w.heap.size) W₂ x (.agg #[.int .i64 x.kind, .slice A1 x.args.length c1]) := IsTy.keep (fun b h => h) (fun p hp => (i0.cell hp).trans (j0.cell hp).symm) _ hx
    obtain ⟨hlen, hargs⟩ := order_bounds hsz hpre
    have hzg := hg.size
    simp only [World.size_alloc] at hzg
    clear hg
    by_cases hf : x.formed = true
    · have HF := Lib.hid hf
      clear hf
      gi_wp2_with (refine ⟨trivial, ?_⟩; gi_at_call 130; refine (CallsIn.inRound _ (callsIn_wide.2 (formed_is x true HF.out hx2 hargs))).mono ?_; rintro e W3 ⟨rfl, hb3⟩; obtain ⟨q3, f3⟩ := (i3.below hb3 (by omega)).facts1)
      refine ⟨?_, ?_⟩
      · exact ((Kept.of_below hb3 (Nat.le_refl _)).trans (Kept.of_grownBy (only_setCell (only_refl W3 (some (w.heap.size + 1 + 1 + 1))) (.inl rfl) _) (fun k e => by cases e; omega)))
      · exact ⟨(i0.trans (hb3.mono (by omega))).setCell (p := ⟨_, 0, none⟩) (by first | (simp; done) | (simp; omega)) _, (i1.below hb3 (by omega)).far (by simp) _, (i2.below hb3 (by omega)).far (by simp) _,
          by simpa using (i3.below hb3 (by omega)).set1 (.int .i64 ((pre.length : Int) + 1)), by simp [i4, HF.out]⟩
    · have HF := Lib.hid hf
      have hno := Lib.hid (order_wrong hpre hf)
      clear hf
      gi_wp2_with (refine ⟨trivial, ?_⟩; gi_at_call 130; refine (CallsIn.inRound _ (callsIn_wide.2 (formed_is x false (by simpa using HF.out) hx2 hargs))).mono ?_; rintro e W3 ⟨rfl, hb3⟩; obtain ⟨q3, f3⟩ := (i1.below hb3 (by omega)).facts1; obtain ⟨q4, f4⟩ := (i2.below hb3 (by omega)).facts1)
      refine ⟨?_, rfl, ((i0.trans (hb3.mono (by omega))).setCell (p := ⟨_, 0, none⟩) (by first | (simp; done) | (simp; omega)) _).setCell (p := ⟨_, 0, none⟩) (by first | (simp; done) | (simp; omega)) _, ((i1.below hb3 (by omega)).set1 (.int .i64 0)).far (by simp) _, ((i2.below hb3 (by omega)).far (by simp) _).set1 (.int .i64 2), hno.out⟩
      exact ((Kept.of_below hb3 (Nat.le_refl _)).trans (Kept.of_grownBy (only_setCell (only_refl W3 (some (w.heap.size + 1))) (.inl rfl) _) (fun k e => by cases e; omega))).trans
        (Kept.of_grownBy (only_setCell (only_refl _ (some (w.heap.size + 1 + 1))) (.inl rfl) _) (fun k e => by cases e; omega))
  case done =>
    rintro W ⟨j0, j1, j2, j3, j4⟩ hzW hD
    obtain ⟨q3, f3⟩ := j3.facts1
    obtain ⟨q1, f1⟩ := j1.facts1
    obtain ⟨q2, f2⟩ := j2.facts1
    rw [order_length] at q3
    have hok : T.ok = true := by rw [ok_order]; exact j4
    by_cases hle : T.nodes ≤ 64
    · gi_wp2
      have z1 := (((j1.set1 (.int .i64 T.nodes)).far (p := ⟨w.heap.size + 1 + 1, 0, none⟩) (by simp) (.int .i64 0)).putObj (D := W0.heap.size) (.deferred none) (by omega)).facts1.1
      have z2 := (((j2.far (p := ⟨w.heap.size + 1, 0, none⟩) (by simp) (.int .i64 T.nodes)).set1 (.int .i64 0)).putObj (D := W0.heap.size) (.deferred none) (by omega)).facts1.1
      refine marks_end (v := .tuple #[.int .i64 T.nodes, .int .i64 0]) ?_ (by simp [results, Tryd.results120, go_sem, z1, z2]) ⟨by simp [Ty.count, Ty.err, hok, hle], below_put ((j0.setCell (p := ⟨_, 0, none⟩) (by first | (simp; done) | (simp; omega)) _).setCell (p := ⟨_, 0, none⟩) (by first | (simp; done) | (simp; omega)) _) _ (Nat.le_refl _) (by omega)⟩
      rw [Below.heap_setCell _ _ _ _ (by simp; omega), Below.heap_setCell _ _ _ _ (by simp; omega)]
      exact hD
    · have hgt : 64 < T.nodes := by omega
      gi_wp2
      have z1 := (((j1.set1 (.int .i64 0)).far (p := ⟨w.heap.size + 1 + 1, 0, none⟩) (by simp) (.int .i64 4)).putObj (D := W0.heap.size) (.deferred none) (by omega)).facts1.1
      have z2 := (((j2.far (p := ⟨w.heap.size + 1, 0, none⟩) (by simp) (.int .i64 0)).set1 (.int .i64 4)).putObj (D := W0.heap.size) (.deferred none) (by omega)).facts1.1
      refine marks_end (v := .tuple #[.int .i64 0, .int .i64 4]) ?_ (by simp [results, Tryd.results120, go_sem, z1, z2]) ⟨by simp [Ty.count, Ty.err, hok, hle], below_put ((j0.setCell (p := ⟨_, 0, none⟩) (by first | (simp; done) | (simp; omega)) _).setCell (p := ⟨_, 0, none⟩) (by first | (simp; done) | (simp; omega)) _) _ (Nat.le_refl _) (by omega)⟩
      rw [Below.heap_setCell _ _ _ _ (by simp; omega), Below.heap_setCell _ _ _ _ (by simp; omega)]
      exact hD
  case stop =>
    rintro c W ⟨rfl, j0, j1, j2, hok⟩ hzW hD
    gi_wp2
    have z1 := (j1.putObj (D := W0.heap.size) (.deferred none) (by omega)).facts1.1
    have z2 := (j2.putObj (D := W0.heap.size) (.deferred none) (by omega)).facts1.1
    exact marks_end (v := .tuple #[.int .i64 0, .int .i64 2]) hD (by simp [results, Tryd.results120, go_sem, z1, z2]) ⟨by simp [Ty.count, Ty.err, hok], below_put j0 _ (Nat.le_refl _) (by omega)⟩
end Go.Proofs.YtifijgihcincfaaDoor
