/- Same. -/
import Derived.Test.YtifijgihcincfaaDoorPlaces
namespace Go.Proofs.YtifijgihcincfaaDoor
open Go.RowKit Go.Shelf

attribute [local go_sem] Oper.semAt_some

def alike (p : Ty × Ty) : Bool := p.1.kind == p.2.kind && p.1.args.length == p.2.args.length
def Ty.same (S T : Ty) : Bool := (S.order2 T).all alike

theorem same_wrong {S T : Ty} {p : Ty × Ty} {pre : List (Ty × Ty)} (h : pre ++ [p] <+: S.order2 T) (hp : ¬ alike p = true) : S.same T = false := by
  have h2 : p ∈ S.order2 T := h.subset (by simp)
  rw [Ty.same, Bool.eq_false_iff]
  intro h3
  exact hp (List.all_eq_true.1 h3 p h2)

theorem places_any (x y x' y' : Value) (w : World) : Calls Tryd.prog 154 #[.agg #[x, y], .agg #[x', y']] w fun e w' =>
    e = .returned (.func (.func 157) #[] #[.pointer (some ⟨w.heap.size, 0, none⟩), .pointer (some ⟨w.heap.size + 1, 0, none⟩)]) ∧
      (w.alloc (.cells #[x, y] 30)).alloc (.cells #[x', y'] 30) = w' := by
  have hmf := makeFunc_run
  go_enter Tryd.func154, Tryd.ntmps154
  go_wp2_with fail
  go_ret
  exact ⟨rfl, rfl⟩

/-- A world with new blocks on top. -/
theorem alloc_facts {w0 w : World} {B : Nat} (h : Below B w0 w) (hB : B ≤ w.heap.size) (cs : Array Value) (t : TypeId) :
    Below B w0 (w.alloc (.cells cs t)) ∧ (w.alloc (.cells cs t)).heap.size = w.heap.size + 1 ∧ Blk (w.alloc (.cells cs t)) w.heap.size t cs :=
  ⟨h.alloc hB _, World.size_alloc _ _, Blk.new _ _ _⟩

def SameR (S T : Ty) (w : World) (e : Ending) (w' : World) : Prop := e = .returned (.bool (S.same T)) ∧ Below w.heap.size w w'

def SameI (w : World) (pre : List (Ty × Ty)) (W : World) : Prop := Below w.heap.size w W ∧ Blk W (w.heap.size + 1 + 1) 4 #[.bool false] ∧ pre.all alike = true
def SameIx (S T : Ty) (w : World) (c : Code) (W : World) : Prop := c = .ret ∧ Below w.heap.size w W ∧ Blk W (w.heap.size + 1 + 1) 4 #[.bool false] ∧ S.same T = false
theorem sameI_low {w : World} {B : Nat} (hB : w.heap.size + 3 ≤ B) (pre : List (Ty × Ty)) : Low B (SameI w pre) := by
  rintro W W' ⟨h0, h1, h4⟩ hb
  exact ⟨h0.trans (hb.mono (by omega)), h1.below hb (by omega), h4⟩
theorem sameIx_low {S T : Ty} {w : World} {B : Nat} (hB : w.heap.size + 3 ≤ B) (c : Code) : Low B (SameIx S T w c) := by
  rintro W W' ⟨hc, h0, h1, h3⟩ hb
  exact ⟨hc, h0.trans (hb.mono (by omega)), h1.below hb (by omega), h3⟩

theorem bne_len (n m : Nat) : ((n : Int) != (m : Int)) = !(n == m) := by
  rw [Bool.eq_iff_iff]; simp; omega

set_option maxRecDepth 100000 in
set_option maxHeartbeats 2000000 in
theorem same_any (S T : Ty) (u v : Value) (w : World) (hsz : S.nodes ≤ 400000) (hS : IsTy (· < w.heap.size) w S u) (hT : IsTy (· < w.heap.size) w T v) :
    Calls Tryd.prog 146 #[u, v] w (SameR S T w) := by
  obtain ⟨A, c, rfl⟩ := hS.form
  obtain ⟨B, d, rfl⟩ := hT.form
  refine (callsIn_wide (n := 3)).1 (callsIn_of_wp_marks Tryd.func146 rfl trivial ?_ rfl)
  simp only [Tryd.ntmps146, List.size_toArray, List.length_cons, List.length_nil, Nat.reduceAdd, Nat.reduceSub, Array.replicate_succ, Array.replicate_zero, List.push_toArray, List.append_toArray, List.nil_append, List.cons_append]
  gi_wp2_with (refine ⟨trivial, ?_⟩; gi_at_call 154; refine (callsIn_wide.2 (places_any _ _ _ _ _)).mono ?_; rintro e w' ⟨rfl, rfl⟩)
  obtain ⟨a1, z1, b1⟩ := alloc_facts (Below.refl w.heap.size w) (Nat.le_refl _) #[.int .i64 S.kind, .slice A S.args.length c] 30
  generalize w.alloc (Obj.cells #[Value.int IntKind.i64 S.kind, Value.slice A S.args.length c] 30) = w1 at a1 z1 b1 ⊢
  obtain ⟨a2, z2, b2⟩ := alloc_facts a1 (by omega) #[.int .i64 T.kind, .slice B T.args.length d] 30
  generalize w1.alloc (Obj.cells #[Value.int IntKind.i64 T.kind, Value.slice B T.args.length d] 30) = w2 at a2 z2 b2 ⊢
  obtain ⟨a3, z3, b3⟩ := alloc_facts a2 (by omega) #[.bool false] 4
  generalize w2.alloc (Obj.cells #[Value.bool false] 4) = w3 at a3 z3 b3 ⊢
  obtain ⟨a4, z4, b4⟩ := alloc_facts a3 (by omega) #[.int .i64 S.kind, .slice A S.args.length c] 30
  have b3 := b3.alloc (Obj.cells #[Value.int IntKind.i64 S.kind, Value.slice A S.args.length c] 30)
  generalize w3.alloc (Obj.cells #[Value.int IntKind.i64 S.kind, Value.slice A S.args.length c] 30) = w4 at a4 z4 b4 b3 ⊢
  obtain ⟨a5, z5, b5⟩ := alloc_facts a4 (by omega) #[.int .i64 T.kind, .slice B T.args.length d] 30
  have b4 := b4.alloc (Obj.cells #[Value.int IntKind.i64 T.kind, Value.slice B T.args.length d] 30)
  have b3 := b3.alloc (Obj.cells #[Value.int IntKind.i64 T.kind, Value.slice B T.args.length d] 30)
  generalize w4.alloc (Obj.cells #[Value.int IntKind.i64 T.kind, Value.slice B T.args.length d] 30) = w5 at a5 z5 b5 b4 b3 ⊢
  rw [z2, z1] at b3
  have hz5 : w5.heap.size = w.heap.size + 5 := by omega
  rw [show w3.heap.size = w.heap.size + 1 + 1 + 1 from by omega] at b4
  rw [show w4.heap.size = w.heap.size + 1 + 1 + 1 + 1 from by omega] at b5
  clear a1 a2 a3 a4 b1 b2 z1 z2 z3 z4 z5
  have hS0 : IsTy (· < w.heap.size) w5 S (.agg #[.int .i64 S.kind, .slice A S.args.length c]) := IsTy.keep (fun b h => h) (fun p hp => a5.cell hp) _ hS
  have hT0 : IsTy (· < w.heap.size) w5 T (.agg #[.int .i64 T.kind, .slice B T.args.length d]) := IsTy.keep (fun b h => h) (fun p hp => a5.cell hp) _ hT
  refine range_wp (by omega) (gf := 157) (lb := #[.pointer (some ⟨w.heap.size + 1 + 1 + 1, 0, none⟩), .pointer (some ⟨w.heap.size + 1 + 1 + 1 + 1, 0, none⟩)]) (by first | rfl | (simp [Act.eval])) (enters_of Tryd.func157 (by kernel_rfl) rfl) (n₀ := w.heap.size) (by omega)
    (enc := EncTy2 w.heap.size) (xs := S.order2 T) (fun x args W h => by obtain ⟨u, v, rfl, _⟩ := h; rfl)
    (places_iter _ _ _ _ S T _ _ w5 (by omega) (by omega) hS0 hT0 hsz (by omega) (by omega) (fun x y e => by simp at e; obtain ⟨rfl, rfl⟩ := e; exact b4) (fun x y e => by simp at e; obtain ⟨rfl, rfl⟩ := e; exact b5))
    (SameI w) (SameIx S T w) (fun pre => sameI_low (by omega) pre) (fun c => sameIx_low (by omega) c) ⟨a5, b3, rfl⟩ ?round ?done ?stop
  case round =>
    rintro pre ⟨x, y⟩ args W ⟨j0, j1, j4⟩ hpre hW ⟨u, v, rfl, hx, hy⟩
    obtain ⟨A1, c1, rfl⟩ := hx.form
    obtain ⟨B1, d1, rfl⟩ := hy.form
    gi_wp2
    have hxy := alloc_facts (Below.refl W.heap.size W) (Nat.le_refl _) #[.int .i64 x.kind, .slice A1 x.args.length c1] 30
    obtain ⟨g1, y1, f1⟩ := hxy
    generalize W.alloc (Obj.cells #[Value.int IntKind.i64 x.kind, Value.slice A1 x.args.length c1] 30) = V1 at g1 y1 f1 ⊢
    obtain ⟨g2, y2, f2⟩ := alloc_facts g1 (by omega) #[.int .i64 y.kind, .slice B1 y.args.length d1] 30
    have f1 := f1.alloc (Obj.cells #[Value.int IntKind.i64 y.kind, Value.slice B1 y.args.length d1] 30)
    generalize V1.alloc (Obj.cells #[Value.int IntKind.i64 y.kind, Value.slice B1 y.args.length d1] 30) = V2 at g2 y2 f2 f1 ⊢
    rw [y1] at f2
    refine ⟨g2, ?_⟩
    rintro W₂ hg ⟨i0, i1, i4⟩
    have hbx : Blk W₂ W.heap.size 30 #[.int .i64 x.kind, .slice A1 x.args.length c1] := f1.grown hg (by simp; omega)
    have hby : Blk W₂ (W.heap.size + 1) 30 #[.int .i64 y.kind, .slice B1 y.args.length d1] := f2.grown hg (by simp; omega)
    obtain ⟨p0, p1, _, _⟩ := hbx.facts2
    obtain ⟨q0, q1, _, _⟩ := hby.facts2
    obtain ⟨r0, r1⟩ := i1.facts1
    have hw := i0.size
    have hzg := hg.size
    clear hg f1 f2
    by_cases hk : x.kind = y.kind
    · have e1 : (x.kind == y.kind) = true := by simp [hk]
      have e2 : (x.kind != y.kind) = false := by simp [hk]
      have HK := Lib.hid hk
      clear hk
      by_cases hl : x.args.length = y.args.length
      · have e3 : ((x.args.length : Int) != (y.args.length : Int)) = false := by rw [bne_len]; simp [hl]
        have e4 : ((x.args.length : Int) == (y.args.length : Int)) = true := by rw [len_eq]; simp [hl]
        have HL := Lib.hid hl
        clear hl
        gi_wp2
        exact ⟨Kept.refl _ _ _, i0, i1, by have h1 := HK.out; have h2 := HL.out; simp [i4, alike, h1, h2]⟩
      · have e3 : ((x.args.length : Int) != (y.args.length : Int)) = true := by rw [bne_len]; simp [hl]
        have e4 : ((x.args.length : Int) == (y.args.length : Int)) = false := by rw [len_eq]; simp [hl]
        have hno := Lib.hid (same_wrong hpre (by simp [alike, hl]))
        clear hl
        gi_wp2
        exact ⟨Kept.of_grownBy (only_setCell (only_refl W₂ (some (w.heap.size + 1 + 1))) (.inl rfl) _) (fun k e => by cases e; omega), rfl, i0.setCell (p := ⟨_, 0, none⟩) (by first | (simp; done) | (simp; omega)) _, i1.set1 (.bool false), hno.out⟩
    · have e1 : (x.kind == y.kind) = false := by simp [hk]
      have e2 : (x.kind != y.kind) = true := by simp [hk]
      have hno := Lib.hid (same_wrong hpre (by simp [alike, hk]))
      clear hk
      gi_wp2
      exact ⟨Kept.of_grownBy (only_setCell (only_refl W₂ (some (w.heap.size + 1 + 1))) (.inl rfl) _) (fun k e => by cases e; omega), rfl, i0.setCell (p := ⟨_, 0, none⟩) (by first | (simp; done) | (simp; omega)) _, i1.set1 (.bool false), hno.out⟩
  case done =>
    rintro W ⟨j0, j1, j4⟩ hzW hD
    obtain ⟨q1, f1⟩ := j1.facts1
    gi_wp2
    have z1 := ((j1.set1 (.bool true)).putObj (D := w5.heap.size) (.deferred none) (by omega)).facts1.1
    refine marks_end (v := .bool true) ?_ (by simp [results, Tryd.results146, go_sem, z1]) ⟨by unfold Ty.same; rw [j4], below_put (j0.setCell (p := ⟨_, 0, none⟩) (by first | (simp; done) | (simp; omega)) _) _ (Nat.le_refl _) (by omega)⟩
    rw [Below.heap_setCell _ _ _ _ (by simp; omega)]
    exact hD
  case stop =>
    rintro c W ⟨rfl, j0, j1, hno⟩ hzW hD
    gi_wp2
    have z1 := (j1.putObj (D := w5.heap.size) (.deferred none) (by omega)).facts1.1
    exact marks_end (v := .bool false) hD (by simp [results, Tryd.results146, go_sem, z1]) ⟨by rw [hno], below_put j0 _ (Nat.le_refl _) (by omega)⟩
end Go.Proofs.YtifijgihcincfaaDoor
